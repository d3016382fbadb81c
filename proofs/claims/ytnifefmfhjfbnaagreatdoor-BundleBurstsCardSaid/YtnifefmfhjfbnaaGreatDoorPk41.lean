import Derived.Test.YtnifefmfhjfbnaaGreatDoorPk39
import Derived.Test.YtnifefmfhjfbnaaGreatDoorPk40
/- Bundle: sections there and back. Plain. Own work. -/
namespace Go.Proofs.YtnifefmfhjfbnaaGreatDoor
open Bn Dc
set_option linter.unusedVariables false
set_option linter.unusedSimpArgs false
namespace Dc
def updK (J I : Im) : Nat → Im
 | 1 => { J with rams := I.rams, devs := I.devs }
 | 2 => { J with subs := I.subs }
 | 3 => { J with ports := I.ports }
 | 4 => { J with regs := I.regs }
 | 5 => { J with chs := I.chs }
 | 6 => { J with irqs := I.irqs }
 | 7 => { J with plans := I.plans, master := I.master, start := I.start }
 | _ => { J with tabs := I.tabs }
section
variable {q : Pt} {s : D}
theorem rowsC_back {γ : Type} {f : γ → List Nat} {one : D → γ × D} {xs : List γ} (ho : ∀ (x : γ) (t : D), x ∈ xs → t.why = 0 → Ah q t (f x) → one t = (x, fw t (f x).length)) (hw : s.why = 0) (h : Ah q s (layL (fun _ => f) 0 xs)) : listD one xs.length s = (xs, fw s (layL (fun _ => f) 0 xs).length) := by
 rw [layC_any f xs 0 s.pos] at h ⊢
 exact rows_back (fun b x t hx hw _ ha => ho x t hx hw ha) hw rfl h
theorem rowsC_snd {γ : Type} {f : γ → List Nat} {ok : γ → Prop} {one : D → γ × D} (ho : ∀ (t : D), Ok (one t).2 → Ok t ∧ ∃ x, one t = (x, fw t (f x).length) ∧ ok x ∧ Ah q t (f x)) (n : Nat) (h : Ok (listD one n s).2) : Ok s ∧ (s.pos ≤ q.Z.length → ∃ xs, listD one n s = (xs, fw s (layL (fun _ => f) 0 xs).length) ∧ xs.length = n ∧ (∀ x ∈ xs, ok x) ∧ Ah q s (layL (fun _ => f) 0 xs)) := by
 obtain ⟨h1, h2⟩ := list_snd (a := s.pos) (f := fun _ => f) (fun b t _ h => ho t h) n h
 refine ⟨h1, fun hle => ?_⟩
 obtain ⟨xs, h3, h4, h5, h6⟩ := h2 rfl hle
 rw [layC_any f xs s.pos 0] at h3 h6
 exact ⟨xs, h3, h4, h5, h6⟩
theorem num8 {f : Nat → Nat} (hf : tbOk f) : ∀ (n : Nat), n ≤ 512 → ∀ (i : Nat), i < n → ∀ u, Pl.num 8 ((tb f n ++ u).drop (8 * i)) = f i
 | 0, _, i, hi, u => by omega
 | n + 1, hn, i, hi, u => by
  rw [tb, List.append_assoc]
  by_cases e : i = n
  ·subst e
   have hl : (tb f i).length = 8 * i := by rw [tb_eq, tbN_len]
   rw [List.drop_left' hl]
   exact Pl.num_le 8 (f i) u (by have := hf i (by omega); omega)
  ·exact num8 hf n (by omega) i (by omega) _
/-- a table as it is read -/
def nrm (f : Nat → Nat) : Nat → Nat := numT (tb f 512)
theorem nrm_tf {f : Nat → Nat} (hf : tbOk f) : ∀ i, i < 512 → nrm f i = f i := fun i hi => by
 have h := num8 hf 512 (Nat.le_refl _) i hi []
 rw [List.append_nil] at h
 exact h
theorem nrm_tab {f : Nat → Nat} (hf : tbOk f) : tabB (nrm f) = tabB f := tb_same (nrm f) f 512 (nrm_tf hf)
theorem tabB_len (f : Nat → Nat) : (tabB f).length = 4096 := by rw [tabB, tb_eq, tbN_len]
theorem table_back {f : Nat → Nat} (h : Ah q s (tabB f)) (hf : nrm f = f) : tabD q s = (f, fw s (tabB f).length) := by
 have g := bytes_back h
 rw [tabB_len] at g ⊢
 unfold tabD
 rw [g]
 dsimp only
 rw [if_pos (tabB_len f)]
 refine Prod.ext ?_ rfl
 exact hf
theorem tb_num : ∀ (n : Nat) (zs : List Nat), (∀ z ∈ zs, z < 256) → 8 * n ≤ zs.length → tb (numT zs) n = zs.take (8 * n)
 | 0, zs, _, _ => by simp [tb]
 | n + 1, zs, hz, hl => by
  rw [tb, tb_num n zs hz (by omega), show 8 * (n + 1) = 8 * n + 8 by omega, List.take_add]
  congr 1
  exact le_num 8 (zs.drop (8 * n)) (fun z h => hz z (List.mem_of_mem_drop h)) (by rw [List.length_drop]; omega)
theorem num8_lt (zs : List Nat) (hz : ∀ z ∈ zs, z < 256) : tbOk (numT zs) := fun i hi => by
 have h : Pl.num 8 (zs.drop (8 * i)) < 256 ^ 8 := Pl.acc_lt (fun z h => hz z (List.mem_of_mem_drop h)) 0 8
 show Pl.num 8 (zs.drop (8 * i)) ≤ _
 omega
theorem table_snd (hq : Sb q) (h : Ok (tabD q s).2) : Ok s ∧ ∃ f, tabD q s = (f, fw s (tabB f).length) ∧ tbOk f ∧ Ah q s (tabB f) := by
 obtain ⟨h1, l, h2, h3, h4, h5⟩ := bytes_snd hq (show Ok (bytesD q 4096 s).2 from h)
 have e : tabB (numT l) = l := by
  rw [tabB, tb_num 512 l h5 (by omega), List.take_of_length_le (by omega)]
 refine ⟨h1, numT l, ?_, num8_lt l h5, by rw [e]; exact h4⟩
 unfold tabD
 rw [h2]
 dsimp only
 rw [if_pos h3, tabB_len]
/-- a section that was laid is read back -/
theorem sec_back {I J : Im} (hI : ImK I) (hn : ∀ f ∈ I.tabs, nrm f = f) {k : Nat} (h1 : 1 ≤ k) (h8 : k ≤ 8) (hf : fitK I k) (hw : s.why = 0) (hp : s.pos = 0) (hd : 1 < k → J.devs = I.devs) (h : Ah q s (secB I k)) (hZ : q.Z.length = (secB I k).length) : secD k q J s = (updK J I k, fw s (secB I k).length) := by
 rcases (by omega : k = 1 ∨ k = 2 ∨ k = 3 ∨ k = 4 ∨ k = 5 ∨ k = 6 ∨ k = 7 ∨ k = 8) with rfl | rfl | rfl | rfl | rfl | rfl | rfl | rfl
 ·have hf : f2 (I.rams.length : Int) ∧ f2 (I.devs.length : Int) := hf
  have h : Ah q s (b2 (I.rams.length : Int) ++ (b2 (I.devs.length : Int) ++ (bz 4 ++ (layL (fun _ => rangeB) 0 I.rams ++ layL (fun _ => rangeB) 0 I.devs)))) := h
  have g1 := half_back h.left hf.1
  have k1 := h.right
  rw [b2_len] at k1
  have g2 := half_back k1.left hf.2
  have k2 := k1.right
  rw [b2_len] at k2
  have g3 := zeros_back k2.left
  have k3 := k2.right
  rw [bz_len] at k3
  have g4 := rowsC_back (one := spanD q) (fun x t hx hw ha => span_back ha (hI.rams x hx)) (show (fw (fw (fw s 2) 2) 4).why = 0 from hw) k3.left
  have g5 := rowsC_back (one := spanD q) (fun x t hx hw ha => span_back ha (hI.devs x hx)) (show (fw (fw (fw (fw s 2) 2) 4) _).why = 0 from hw) k3.right
  have e : busD q s = (⟨I.rams, I.devs⟩, fw s (secB I 1).length) := by
   simp only [busD, g1, g2, g3, Int.toNat_natCast, g4, g5]
   refine Prod.ext rfl ?_
   show fw (fw (fw (fw (fw s 2) 2) 4) _) _ = fw s (b2 (I.rams.length : Int) ++ (b2 (I.devs.length : Int) ++ (bz 4 ++ (layL (fun _ => rangeB) 0 I.rams ++ layL (fun _ => rangeB) 0 I.devs)))).length
   simp only [fw_fw]
   congr 1
   simp only [List.length_append, b2_len, bz_len]
   omega
  show (Im.mk _ _ _ _ _ _ _ _ _ _ _ _, _) = _
  rw [e]
  rfl
 ·have hf : f2 (I.subs.length : Int) ∧ ∀ x ∈ I.subs, tnF x := hf
  have h : Ah q s (manyB I.subs.length ++ layL (fun _ => tenB) 0 I.subs) := h
  have g1 := many_back h.left (by have := hf.1.2; omega)
  have k1 := h.right
  rw [manyB_len] at k1
  have g2 := rowsC_back (one := tenD q) (fun x t hx hw ha => by obtain ⟨a, b, c, d, e⟩ := hf.2 x hx; exact ten_back ha a b c d e) (show (fw s 8).why = 0 from hw) k1
  show (Im.mk _ _ _ _ _ _ _ _ _ _ _ _, _) = _
  rw [g1]
  dsimp only
  rw [g2]
  refine Prod.ext rfl ?_
  show fw (fw s 8) _ = fw s (manyB I.subs.length ++ layL (fun _ => tenB) 0 I.subs).length
  rw [fw_fw, List.length_append, manyB_len]
 ·have hf : I.ports.length = I.devs.length ∧ f2 (I.ports.length : Int) ∧ ∀ x ∈ I.ports, fn x := hf
  have h : Ah q s (manyB I.ports.length ++ layL (fun _ => portB) 0 I.ports) := h
  have hm : Ah q s (b2 (I.ports.length : Int) ++ bz 6) := h.left
  have g1 := half_back hm.left hf.2.1
  have k1 := hm.right
  rw [b2_len] at k1
  have g2 := zeros_back k1
  have k2 := h.right
  rw [manyB_len] at k2
  have g3 := rowsC_back (one := portD q) (fun x t hx hw ha => port_back ha (hf.2.2 x hx)) (show (fw s 8).why = 0 from hw) k2
  have e : portsD q J.devs.length s = (I.ports, fw s (secB I 3).length) := by
   unfold portsD
   rw [g1]
   dsimp only
   rw [Int.toNat_natCast, show decide (I.ports.length = J.devs.length) = true by rw [hd (by decide), hf.1]; exact decide_eq_true rfl, form_true, g2, fw_fw, g3, fw_fw]
   refine Prod.ext rfl ?_
   show fw s _ = fw s (manyB I.ports.length ++ layL (fun _ => portB) 0 I.ports).length
   rw [List.length_append, manyB_len]
  show (Im.mk _ _ _ _ _ _ _ _ _ _ _ _, _) = _
  rw [e]
  rfl
 ·have hf : f2 (I.regs.length : Int) ∧ ∀ x ∈ I.regs, gdF x := hf
  have h : Ah q s (manyB I.regs.length ++ layL gdB 0 I.regs) := h
  have g1 := many_back h.left (by have := hf.1.2; omega)
  have k1 := h.right
  rw [manyB_len] at k1
  have g2 := rows_back (one := gdD q) (a := 0) (fun b x t hx hw hp ha => gd_back ha hp (hI.regs x hx) (hf.2 x hx).2) (show (fw s 8).why = 0 from hw) (by show (s.pos + 8) % 8 = 0; omega) k1
  show (Im.mk _ _ _ _ _ _ _ _ _ _ _ _, _) = _
  rw [g1]
  dsimp only
  rw [g2]
  refine Prod.ext rfl ?_
  show fw (fw s 8) _ = fw s (manyB I.regs.length ++ layL gdB 0 I.regs).length
  rw [fw_fw, List.length_append, manyB_len]
 ·have hf : f2 (I.chs.length : Int) ∧ ∀ x ∈ I.chs, chF x := hf
  have h : Ah q s (manyB I.chs.length ++ layL (fun _ => chB) 0 I.chs) := h
  have g1 := many_back h.left (by have := hf.1.2; omega)
  have k1 := h.right
  rw [manyB_len] at k1
  have g2 := rowsC_back (one := chD q) (fun x t hx hw ha => by obtain ⟨a, b, c, d, e⟩ := hf.2 x hx; exact ch_back ha a b c d e) (show (fw s 8).why = 0 from hw) k1
  show (Im.mk _ _ _ _ _ _ _ _ _ _ _ _, _) = _
  rw [g1]
  dsimp only
  rw [g2]
  refine Prod.ext rfl ?_
  show fw (fw s 8) _ = fw s (manyB I.chs.length ++ layL (fun _ => chB) 0 I.chs).length
  rw [fw_fw, List.length_append, manyB_len]
 ·have hf : f2 (I.irqs.length : Int) ∧ ∀ x ∈ I.irqs, iqF x := hf
  have h : Ah q s (manyB I.irqs.length ++ layL (fun _ => iqB) 0 I.irqs) := h
  have g1 := many_back h.left (by have := hf.1.2; omega)
  have k1 := h.right
  rw [manyB_len] at k1
  have g2 := rowsC_back (one := iqD q) (fun x t hx hw ha => by obtain ⟨a, b, c, d⟩ := hf.2 x hx; exact iq_back ha a b c d) (show (fw s 8).why = 0 from hw) k1
  show (Im.mk _ _ _ _ _ _ _ _ _ _ _ _, _) = _
  rw [g1]
  dsimp only
  rw [g2]
  refine Prod.ext rfl ?_
  show fw (fw s 8) _ = fw s (manyB I.irqs.length ++ layL (fun _ => iqB) 0 I.irqs).length
  rw [fw_fw, List.length_append, manyB_len]
 ·have hf : f2 (I.plans.length : Int) ∧ f2 (lanesN I : Int) ∧ fn I.master ∧ f2 I.start ∧ ∀ x ∈ I.plans, planF (lanesN I) x := hf
  have h : Ah q s (b2 (I.plans.length : Int) ++ (b2 (lanesN I : Int) ++ (b2 I.master ++ (b2 I.start ++ layL (fun _ => planB) 0 I.plans)))) := h
  have g1 := half_back h.left hf.1
  have k1 := h.right
  rw [b2_len] at k1
  have g2 := half_back k1.left hf.2.1
  have k2 := k1.right
  rw [b2_len] at k2
  have g3 := none_back k2.left hf.2.2.1
  have k3 := k2.right
  rw [b2_len] at k3
  have g4 := half_back k3.left hf.2.2.2.1
  have k4 := k3.right
  rw [b2_len] at k4
  have g5 := rowsC_back (one := planD q (lanesN I)) (fun x t hx hw ha => by
   obtain ⟨a, b, c⟩ := hf.2.2.2.2 x hx
   have h9 := plan_back ha hw b (fun l hl => ⟨by have := (c l hl).1.2; omega, fun y hy => (c l hl).2 y hy⟩)
   rw [a] at h9
   exact h9) (show (fw (fw (fw (fw s 2) 2) 2) 2).why = 0 from hw) k4
  have hm : (decide (0 < I.plans.length) || decide (lanesN I = 0)) = true := by
   unfold lanesN
   cases I.plans <;> simp
  have e : plansD q s = (⟨I.plans, I.master, I.start.toNat⟩, fw s (secB I 7).length) := by
   simp only [plansD, g1, g2, Int.toNat_natCast, hm, form_true, g3, g4, g5]
   simp only [fw_fw]
   refine Prod.ext rfl ?_
   show fw s _ = fw s (b2 (I.plans.length : Int) ++ (b2 (lanesN I : Int) ++ (b2 I.master ++ (b2 I.start ++ layL (fun _ => planB) 0 I.plans)))).length
   congr 1
   simp only [List.length_append, b2_len]
   omega
  show (Im.mk _ _ _ _ _ _ _ _ _ _ _ _, _) = _
  rw [e]
  refine Prod.ext ?_ rfl
  show Im.mk _ _ _ _ _ _ _ _ _ _ _ _ = Im.mk _ _ _ _ _ _ _ _ _ _ _ _
  have h0 := hf.2.2.2.1.1
  rw [show ((I.start.toNat : Nat) : Int) = I.start by omega]
 ·have h : Ah q s (layL (fun _ => tabB) 0 I.tabs) := h
  have hl : ∀ (xs : List (Nat → Nat)) (a : Nat), (layL (fun _ => tabB) a xs).length = 4096 * xs.length := fun xs => by
   induction xs with
   | nil => intro a; rfl
   | cons x xs ih => intro a; rw [layL, List.length_append, tabB_len, ih, List.length_cons]; omega
  have hZ : q.Z.length = (layL (fun _ => tabB) 0 I.tabs).length := hZ
  rw [hl] at hZ
  have g := rowsC_back (one := tabD q) (fun x t hx hw ha => table_back ha (hn x hx)) hw h
  show (Im.mk _ _ _ _ _ _ _ _ _ _ _ _, _) = _
  unfold tabsD
  rw [hZ, hp, show (4096 * I.tabs.length - 0) / 4096 = I.tabs.length by omega, g]
  rfl
end
end Dc
end Go.Proofs.YtnifefmfhjfbnaaGreatDoor
/- Bundle: a section that is taken stood there so. Plain. Own work. -/
namespace Go.Proofs.YtnifefmfhjfbnaaGreatDoor
open Bn Dc
set_option linter.unusedVariables false
set_option linter.unusedSimpArgs false
namespace Dc
def kindK (I : Im) : Nat → Prop
 | 1 => (∀ x ∈ I.rams, rgOk x) ∧ ∀ x ∈ I.devs, rgOk x
 | 4 => ∀ x ∈ I.regs, gdOk x
 | 8 => ∀ x ∈ I.tabs, tbOk x
 | _ => True
section
variable {q : Pt} {s : D}
theorem Ah.whole {l : List Nat} (h : Ah q s l) (hp : s.pos = 0) (he : s.pos + l.length = q.Z.length) : q.Z = l := by
 obtain ⟨u, hu⟩ := h.eq
 rw [hp, List.drop_zero] at hu
 have hl := congrArg List.length hu
 rw [List.length_append] at hl
 have : u = [] := List.eq_nil_of_length_eq_zero (by omega)
 rw [hu, this, List.append_nil]
theorem many_rows {γ : Type} {f : γ → List Nat} {ok : γ → Prop} {one : D → γ × D} (hq : Sb q) (ho : ∀ (t : D), Ok (one t).2 → Ok t ∧ ∃ x, one t = (x, fw t (f x).length) ∧ ok x ∧ Ah q t (f x)) (h : Ok (listD one (manyD q s).1 (manyD q s).2).2) : Ok s ∧ ∃ xs : List γ, listD one (manyD q s).1 (manyD q s).2 = (xs, fw s (manyB xs.length ++ layL (fun _ => f) 0 xs).length) ∧ f2 (xs.length : Int) ∧ (∀ x ∈ xs, ok x) ∧ Ah q s (manyB xs.length ++ layL (fun _ => f) 0 xs) := by
 obtain ⟨g1, hr⟩ := rowsC_snd ho _ h
 obtain ⟨g0, n, e1, o1, a1⟩ := many_snd hq g1
 rw [e1] at hr
 obtain ⟨xs, e2, hl, hx, a2⟩ := hr (by have := a1.pos; rw [manyB_len] at this; exact this)
 dsimp only at e2 hl a2
 subst hl
 refine ⟨g0, xs, ?_, by unfold f2; omega, hx, a1.app (by rw [manyB_len]; exact a2)⟩
 rw [e1]
 dsimp only
 rw [e2, fw_fw, List.length_append, manyB_len]
/-- a section that is taken -/
theorem sec_snd (hq : Sb q) {J : Im} {k : Nat} (h1 : 1 ≤ k) (h8 : k ≤ 8) (hp : s.pos = 0) (h : Ok (secD k q J s).2) (he : (secD k q J s).2.pos = q.Z.length) (hd : k = 8 → q.Z.length % 4096 = 0) : fitK (secD k q J s).1 k ∧ kindK (secD k q J s).1 k ∧ q.Z = secB (secD k q J s).1 k := by
 rcases (by omega : k = 1 ∨ k = 2 ∨ k = 3 ∨ k = 4 ∨ k = 5 ∨ k = 6 ∨ k = 7 ∨ k = 8) with rfl | rfl | rfl | rfl | rfl | rfl | rfl | rfl
 ·have h9 : Ok (listD (spanD q) (takeD q 2 (takeD q 2 s).2).1 (listD (spanD q) (takeD q 2 s).1 (zerosD q 4 (takeD q 2 (takeD q 2 s).2).2)).2).2 := h
  obtain ⟨g4, hr5⟩ := rowsC_snd (f := rangeB) (ok := rgOk) (fun t h => span_snd hq h) _ h9
  obtain ⟨g3, hr4⟩ := rowsC_snd (f := rangeB) (ok := rgOk) (fun t h => span_snd hq h) _ g4
  obtain ⟨g2, e3, a3⟩ := zeros_snd hq g3
  obtain ⟨g1, m, e2, o2, a2⟩ := half_snd hq g2
  obtain ⟨g0, n, e1, o1, a1⟩ := half_snd hq g1
  rw [e1] at e2 a2 e3 a3 hr4 hr5
  dsimp only at e2 a2 e3 a3 hr4 hr5
  rw [e2] at e3 a3 hr4 hr5
  dsimp only at e3 a3 hr4 hr5
  rw [e3] at hr4 hr5
  obtain ⟨xs, e4, l4, x4, a4⟩ := hr4 (by have := a3.pos; rw [bz_len] at this; exact this)
  rw [e4] at hr5
  dsimp only at hr5
  obtain ⟨ys, e5, l5, x5, a5⟩ := hr5 a4.pos
  have hb : busD q s = (⟨xs, ys⟩, fw (fw (fw (fw (fw s 2) 2) 4) (layL (fun _ => rangeB) 0 xs).length) (layL (fun _ => rangeB) 0 ys).length) := by
   unfold busD
   rw [e1]
   dsimp only
   rw [e2]
   dsimp only
   rw [e3, e4]
   dsimp only
   rw [e5]
  have hS : secD 1 q J s = ({ J with rams := xs, devs := ys }, fw (fw (fw (fw (fw s 2) 2) 4) (layL (fun _ => rangeB) 0 xs).length) (layL (fun _ => rangeB) 0 ys).length) := by
   show (Im.mk _ _ _ _ _ _ _ _ _ _ _ _, _) = _
   rw [hb]
  rw [hS] at he ⊢
  subst l4 l5
  have hA : Ah q s (b2 (xs.length : Int) ++ (b2 (ys.length : Int) ++ (bz 4 ++ (layL (fun _ => rangeB) 0 xs ++ layL (fun _ => rangeB) 0 ys)))) := a1.app (by rw [b2_len]; exact a2.app (by rw [b2_len]; exact a3.app (by rw [bz_len]; exact a4.app a5)))
  refine ⟨⟨f2n o1, f2n o2⟩, ⟨x4, x5⟩, ?_⟩
  refine hA.whole hp ?_
  have he : s.pos + 2 + 2 + 4 + (layL (fun _ => rangeB) 0 xs).length + (layL (fun _ => rangeB) 0 ys).length = q.Z.length := he
  simp only [List.length_append, b2_len, bz_len]
  omega
 ·obtain ⟨g0, xs, e, o, x, a⟩ := many_rows (f := tenB) (ok := tnF) hq (fun t h => ten_snd hq h) (show Ok (listD (tenD q) (manyD q s).1 (manyD q s).2).2 from h)
  have hS : secD 2 q J s = ({ J with subs := xs }, fw s (manyB xs.length ++ layL (fun _ => tenB) 0 xs).length) := by
   show (Im.mk _ _ _ _ _ _ _ _ _ _ _ _, _) = _
   rw [e]
  rw [hS] at he ⊢
  exact ⟨⟨o, x⟩, trivial, a.whole hp he⟩
 ·have h9 : Ok (listD (portD q) (takeD q 2 s).1 (zerosD q 6 (formD q (decide ((takeD q 2 s).1 = J.devs.length)) 0 (takeD q 2 s).2))).2 := h
  obtain ⟨g3, hr⟩ := rowsC_snd (f := portB) (ok := fn) (fun t h => port_snd hq h) _ h9
  obtain ⟨g2, e2, a2⟩ := zeros_snd hq g3
  obtain ⟨b, e3, g1⟩ := form_snd g2
  obtain ⟨g0, n, e1, o1, a1⟩ := half_snd hq g1
  rw [e3] at e2 a2
  rw [e1] at e2 a2 b
  dsimp only at e2 a2 b
  rw [e3, e1] at hr
  dsimp only at hr
  rw [e2] at hr
  obtain ⟨xs, e4, l4, x4, a4⟩ := hr (by have := a2.pos; rw [bz_len] at this; exact this)
  have hb : portsD q J.devs.length s = (xs, fw (fw (fw s 2) 6) (layL (fun _ => portB) 0 xs).length) := by
   unfold portsD
   dsimp only
   rw [e3, e1]
   dsimp only
   rw [e2, e4]
  have hS : secD 3 q J s = ({ J with ports := xs }, fw (fw (fw s 2) 6) (layL (fun _ => portB) 0 xs).length) := by
   show (Im.mk _ _ _ _ _ _ _ _ _ _ _ _, _) = _
   rw [hb]
  rw [hS] at he ⊢
  subst l4
  have hm : Ah q s (manyB xs.length) := a1.app (by rw [b2_len]; exact a2)
  have hA : Ah q s (manyB xs.length ++ layL (fun _ => portB) 0 xs) := hm.app (by rw [manyB_len]; rw [fw_fw] at a4; exact a4)
  refine ⟨⟨of_decide_eq_true b, f2n o1, x4⟩, trivial, hA.whole hp ?_⟩
  have he : s.pos + 2 + 6 + (layL (fun _ => portB) 0 xs).length = q.Z.length := he
  rw [List.length_append, manyB_len]
  omega
 ·have h9 : Ok (listD (gdD q) (manyD q s).1 (manyD q s).2).2 := h
  obtain ⟨g1, hr⟩ := list_snd (a := 0) (f := gdB) (ok := fun x => gdOk x ∧ x.txt.size ≤ 1048576) (fun b t hp h => gd_snd hq hp h) _ h9
  obtain ⟨g0, n, e1, o1, a1⟩ := many_snd hq g1
  rw [e1] at hr
  obtain ⟨xs, e2, l2, x2, a2⟩ := hr (by show (s.pos + 8) % 8 = 0; omega) (by have := a1.pos; rw [manyB_len] at this; exact this)
  dsimp only at e2 l2 a2
  have hS : secD 4 q J s = ({ J with regs := xs }, fw (fw s 8) (layL gdB 0 xs).length) := by
   show (Im.mk _ _ _ _ _ _ _ _ _ _ _ _, _) = _
   rw [e1]
   dsimp only
   rw [e2]
  rw [hS] at he ⊢
  subst l2
  have hA : Ah q s (manyB xs.length ++ layL gdB 0 xs) := a1.app (by rw [manyB_len]; exact a2)
  refine ⟨⟨f2n o1, fun x hx => ⟨?_, (x2 x hx).2⟩⟩, fun x hx => (x2 x hx).1, hA.whole hp ?_⟩
  ·have := (x2 x hx).1.2.2.1
   unfold f1
   omega
  ·have he : s.pos + 8 + (layL gdB 0 xs).length = q.Z.length := he
   rw [List.length_append, manyB_len]
   omega
 ·obtain ⟨g0, xs, e, o, x, a⟩ := many_rows (f := chB) (ok := chF) hq (fun t h => ch_snd hq h) (show Ok (listD (chD q) (manyD q s).1 (manyD q s).2).2 from h)
  have hS : secD 5 q J s = ({ J with chs := xs }, fw s (manyB xs.length ++ layL (fun _ => chB) 0 xs).length) := by
   show (Im.mk _ _ _ _ _ _ _ _ _ _ _ _, _) = _
   rw [e]
  rw [hS] at he ⊢
  exact ⟨⟨o, x⟩, trivial, a.whole hp he⟩
 ·obtain ⟨g0, xs, e, o, x, a⟩ := many_rows (f := iqB) (ok := iqF) hq (fun t h => iq_snd hq h) (show Ok (listD (iqD q) (manyD q s).1 (manyD q s).2).2 from h)
  have hS : secD 6 q J s = ({ J with irqs := xs }, fw s (manyB xs.length ++ layL (fun _ => iqB) 0 xs).length) := by
   show (Im.mk _ _ _ _ _ _ _ _ _ _ _ _, _) = _
   rw [e]
  rw [hS] at he ⊢
  exact ⟨⟨o, x⟩, trivial, a.whole hp he⟩
 ·have h9 : Ok (listD (planD q (takeD q 2 (takeD q 2 s).2).1) (takeD q 2 s).1 (takeD q 2 (noneD q (formD q (decide (0 < (takeD q 2 s).1) || decide ((takeD q 2 (takeD q 2 s).2).1 = 0)) (takeD q 2 s).2.pos (takeD q 2 (takeD q 2 s).2).2)).2).2).2 := h
  obtain ⟨g4, hr⟩ := rowsC_snd (f := planB) (ok := planF (takeD q 2 (takeD q 2 s).2).1) (fun t h => by
   obtain ⟨a, x, b, c, d⟩ := plan_snd hq h
   exact ⟨a, x, b, ⟨c.1, c.2.1, fun l hl => ⟨by have := (c.2.2 l hl).1; unfold f2; omega, (c.2.2 l hl).2⟩⟩, d⟩) _ h9
  obtain ⟨g3, st, e4, o4, a4⟩ := half_snd hq g4
  obtain ⟨g2, ms, e3, o3, a3⟩ := none_snd hq g3
  obtain ⟨b, e5, g1⟩ := form_snd g2
  obtain ⟨g1', N, e2, o2, a2⟩ := half_snd hq g1
  obtain ⟨g0, n, e1, o1, a1⟩ := half_snd hq g1'
  rw [e5] at e3 a3 e4 a4 hr
  rw [e1] at e2 a2 b e3 a3 e4 a4 hr
  dsimp only at e2 a2 b e3 a3 e4 a4 hr
  rw [e2] at b e3 a3 e4 a4 hr
  dsimp only at b e3 a3 e4 a4 hr
  rw [e3] at e4 a4 hr
  dsimp only at e4 a4 hr
  rw [e4] at hr
  dsimp only at hr
  obtain ⟨xs, e6, l6, x6, a6⟩ := hr (by have := a4.pos; rw [b2_len] at this; exact this)
  have hb : plansD q s = (⟨xs, ms, st⟩, fw (fw (fw (fw (fw s 2) 2) 2) 2) (layL (fun _ => planB) 0 xs).length) := by
   unfold plansD
   dsimp only
   rw [e5, e1]
   dsimp only
   rw [e2]
   dsimp only
   rw [e3]
   dsimp only
   rw [e4]
   dsimp only
   rw [e6]
  have hS : secD 7 q J s = ({ J with plans := xs, master := ms, start := (st : Int) }, fw (fw (fw (fw (fw s 2) 2) 2) 2) (layL (fun _ => planB) 0 xs).length) := by
   show (Im.mk _ _ _ _ _ _ _ _ _ _ _ _, _) = _
   rw [hb]
  rw [hS] at he ⊢
  subst l6
  have hN : lanesN { J with plans := xs, master := ms, start := (st : Int) } = N := by
   unfold lanesN
   dsimp only
   cases xs with
   | nil => simp at b; exact b.symm
   | cons x xs => exact (x6 x (List.mem_cons_self ..)).1
  have hA : Ah q s (b2 (xs.length : Int) ++ (b2 (N : Int) ++ (b2 ms ++ (b2 (st : Int) ++ layL (fun _ => planB) 0 xs)))) := a1.app (by rw [b2_len]; exact a2.app (by rw [b2_len]; exact a3.app (by rw [b2_len]; exact a4.app (by rw [b2_len]; exact a6))))
  refine ⟨?_, trivial, ?_⟩
  ·show f2 _ ∧ f2 _ ∧ fn ms ∧ f2 (st : Int) ∧ ∀ x ∈ xs, planF _ x
   rw [hN]
   exact ⟨f2n o1, f2n o2, o3, f2n o4, x6⟩
  ·show q.Z = b2 (xs.length : Int) ++ (b2 (lanesN { J with plans := xs, master := ms, start := (st : Int) } : Int) ++ (b2 ms ++ (b2 (st : Int) ++ layL (fun _ => planB) 0 xs)))
   rw [hN]
   refine hA.whole hp ?_
   have he : s.pos + 2 + 2 + 2 + 2 + (layL (fun _ => planB) 0 xs).length = q.Z.length := he
   simp only [List.length_append, b2_len]
   omega
 ·have h9 : Ok (listD (tabD q) ((q.Z.length - s.pos) / 4096) s).2 := h
  obtain ⟨g0, hr⟩ := rowsC_snd (f := tabB) (ok := tbOk) (fun t h => table_snd hq h) _ h9
  obtain ⟨xs, e1, l1, x1, a1⟩ := hr (by omega)
  have hS : secD 8 q J s = ({ J with tabs := xs }, fw s (layL (fun _ => tabB) 0 xs).length) := by
   show (Im.mk _ _ _ _ _ _ _ _ _ _ _ _, _) = _
   unfold tabsD
   rw [e1]
  rw [hS] at he ⊢
  exact ⟨trivial, x1, a1.whole hp he⟩
end
end Dc
end Go.Proofs.YtnifefmfhjfbnaaGreatDoor
