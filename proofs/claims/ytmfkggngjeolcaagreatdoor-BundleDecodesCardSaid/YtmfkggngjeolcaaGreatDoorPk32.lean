import Derived.Test.YtmfkggngjeolcaaGreatDoorPk24
import Derived.Test.YtmfkggngjeolcaaGreatDoorPk31
import Derived.Test.YtmfkggngjeolcaaGreatDoorPk26
import Derived.Deep.DeepCutAuto
import Derived.Deep.CutBlock
import Derived.Test.YtmfkggngjeolcaaGreatDoorPk30
set_option linter.unusedSimpArgs false
set_option linter.unusedVariables false
set_option maxHeartbeats 8000000
set_option maxRecDepth 100000
namespace Go.Proofs.YtmfkggngjeolcaaGreatDoor
open Go.RowKit Bn Dd
def rdV (raw : Value) (p : Q) (r : R) : Array Value := #[raw, .int .i64 (r.ps : Int), .int .i64 (p.en : Int), .int .i64 r.bad]
structure Rk (rb : Nat) (raw : Value) (p : Q) (w0 : World) (r : R) (w : World) : Prop where
 blk : w.heap[rb]? = some (.cells (rdV raw p r) 138 (0, 0))
 sl : Sl w raw p.bs
 ne : ∀ k, raw.ownBlock = some k → k ≠ rb
 le : r.ps ≤ p.en
 en : p.en ≤ p.bs.length
 sz : p.bs.length ≤ 1099511627776
 b1 : -1 ≤ r.bad
 b2 : r.bad ≤ 1099511627776
 fr : Keeps (fun k => k = rb) w0 w
section
variable {rb : Nat} {raw : Value} {p : Q} {w0 w w' : World} {r : R}
theorem Rk.lt (h : Rk rb raw p w0 r w) : rb < w.heap.size := (Array.getElem?_eq_some_iff.1 h.blk).1
theorem Rk.cell0 (h : Rk rb raw p w0 r w) : w.cell? ⟨rb, 0, none⟩ = some raw := by rw [cell_of_row _ _ 0 _ _ _ h.blk]; rfl
theorem Rk.cell1 (h : Rk rb raw p w0 r w) : w.cell? ⟨rb, 1, none⟩ = some (.int .i64 (r.ps : Int)) := by rw [cell_of_row _ _ 1 _ _ _ h.blk]; rfl
theorem Rk.cell2 (h : Rk rb raw p w0 r w) : w.cell? ⟨rb, 2, none⟩ = some (.int .i64 (p.en : Int)) := by rw [cell_of_row _ _ 2 _ _ _ h.blk]; rfl
theorem Rk.cell3 (h : Rk rb raw p w0 r w) : w.cell? ⟨rb, 3, none⟩ = some (.int .i64 r.bad) := by rw [cell_of_row _ _ 3 _ _ _ h.blk]; rfl
theorem Rk.free (h : Rk rb raw p w0 r w) (i : Nat) : w.frozen? ⟨rb, i, none⟩ = false := by simp [World.frozen?, h.blk]
theorem Rk.here (h : Rk rb raw p w0 r w) : Rk rb raw p w r w := ⟨h.blk, h.sl, h.ne, h.le, h.en, h.sz, h.b1, h.b2, Keeps.refl _ _⟩
theorem Rk.since {w1 : World} (h : Rk rb raw p w r w1) (k : Keeps (fun k => k = rb) w0 w) : Rk rb raw p w0 r w1 := ⟨h.blk, h.sl, h.ne, h.le, h.en, h.sz, h.b1, h.b2, k.trans h.fr (fun _ _ e => e)⟩
theorem Rk.setAt (h : Rk rb raw p w0 r w) {a : Nat} (ha : a ≤ p.en) : Rk rb raw p w0 ⟨a, r.bad⟩ (w.setCell ⟨rb, 1, none⟩ (.int .i64 (a : Int))) := by
 have hk := Keeps.setCell w rb 1 (.int .i64 (a : Int));refine ⟨?_, h.sl.keeps hk h.ne, h.ne, ha, h.en, h.sz, h.b1, h.b2, h.fr.trans hk (fun _ _ e => e)⟩;simp only [World.setCell, Array.getElem?_modify];rw [if_pos trivial, h.blk];simp [rdV]
theorem Rk.setBad (h : Rk rb raw p w0 r w) {b : Int} (h1 : -1 ≤ b) (h2 : b ≤ 1099511627776) : Rk rb raw p w0 ⟨r.ps, b⟩ (w.setCell ⟨rb, 3, none⟩ (.int .i64 b)) := by
 have hk := Keeps.setCell w rb 3 (.int .i64 b);refine ⟨?_, h.sl.keeps hk h.ne, h.ne, h.le, h.en, h.sz, h1, h2, h.fr.trans hk (fun _ _ e => e)⟩;simp only [World.setCell, Array.getElem?_modify];rw [if_pos trivial, h.blk];simp [rdV]
theorem Rk.below (h : Rk rb raw p w0 r w) (hb : Below w.heap.size w w') : Rk rb raw p w0 r w' :=
 ⟨(hb.block rb h.lt).trans h.blk, h.sl.below hb, h.ne, h.le, h.en, h.sz, h.b1, h.b2, h.fr.trans (Keeps.of_below hb) (fun _ _ e => e)⟩
theorem drefuseQ (h : Rk rb raw p w0 r w) {a : Nat} (ha : a ≤ p.en) : Calls Tryz.prog 112 #[.pointer (some ⟨rb, 0, none⟩), .int .i64 (a : Int)] w fun e w' => e = .returned (.tuple #[]) ∧ Rk rb raw p w0 (refR a r) w' := by
 have c3 := h.cell3;have f3 := h.free 3;have hlen := Nat.le_trans h.en h.sz
 by_cases hb : r.bad < 0
 ·have HF : Hid (Rk rb raw p w0 (refR a r) (w.setCell ⟨rb, 3, none⟩ (.int .i64 (a : Int)))) := by
   unfold Hid;rw [refR, if_pos hb];exact h.setBad (by omega) (by omega)
  clear h ha;go_enter Tryz.func112, Tryz.ntmps112
  go_wp2_with fail
  go_end0
  exact ⟨rfl, HF.out⟩
 ·have HF : Hid (Rk rb raw p w0 (refR a r) w) := by
   unfold Hid;rw [refR, if_neg hb];exact h
  clear h ha;go_enter Tryz.func112, Tryz.ntmps112
  go_wp2_with fail
  go_end0
  exact ⟨rfl, HF.out⟩
theorem dnumberQ (h : Rk rb raw p w0 r w) {k : Nat} (hk : 0 < k) (hk4 : k ≤ 4) : Calls Tryz.prog 106 #[.pointer (some ⟨rb, 0, none⟩), .int .i64 (k : Int)] w fun e w' => e = .returned (.int .i64 ((numR p k r).1 : Int)) ∧ Rk rb raw p w0 (numR p k r).2 w' := by
 have c3 := h.cell3;have f3 := h.free 3
 by_cases hb : r.bad < 0
 ·have d3 : decide (r.bad ≥ 0) = false := decide_eq_false (by omega);have c1 := h.cell1;have c2 := h.cell2;have f1 := h.free 1;have hen := h.en;have hsz := h.sz;have hle := h.le;have hw0 : IntKind.i64.wrap ((p.en : Int) - (r.ps : Int)) = ((p.en - r.ps : Nat) : Int) := by rw [IntKind.wrap_i64]; omega
  by_cases hl : r.ps + k ≤ p.en
  ·have d4 : decide ((k : Int) > ((p.en - r.ps : Nat) : Int)) = false := decide_eq_false (by omega);have c0 := h.cell0;obtain ⟨ao, cap, rfl, q1, q2, q3, q4, q5⟩ := id h.sl;unfold maxLen at q2;have HC : Hid (∀ W, Rk rb (.slice ao p.bs.length cap) p w0 r W → Calls Tryz.prog 69 #[.slice (Option.map (fun x => x.add r.ps) ao) (p.bs.length - r.ps) (cap - r.ps), .int .i64 (k : Int)] W fun e w' => ∃ v, e = .returned v ∧ (v = .tuple #[.int .u64 (Pl.num k (p.bs.drop r.ps) : Nat), .bool true] ∧ w' = W)) := fun W hW => (rNumber_yes (by omega) (hW.sl.cut (fr := r.ps) (by omega)) (by rw [List.length_drop]; omega) hk).mono (fun e w' h9 => ⟨_, h9.1, rfl, h9.2⟩);have HE : Hid (Enters Tryz.prog 69) := enters_of Tryz.func69 (by kernel_rfl) rfl;have HK : Hid (∀ n, Rk rb (.slice ao p.bs.length cap) p w0 r (w.drewN n)) := fun n => h.below ⟨rfl, rfl, rfl, Nat.le_refl _, fun _ _ => rfl⟩;have hn : Pl.num k (p.bs.drop r.ps) < 256 ^ k := Pl.acc_lt (fun z hz => h.sl.small z (List.mem_of_mem_drop hz)) 0 k;have hn4 : Pl.num k (p.bs.drop r.ps) < 4294967296 := Nat.lt_of_lt_of_le hn (Nat.le_trans (Nat.pow_le_pow_right (by decide) hk4) (by decide));have HF : Hid (∀ W, Rk rb (.slice ao p.bs.length cap) p w0 r W → Rk rb (.slice ao p.bs.length cap) p w0 (numR p k r).2 (W.setCell ⟨rb, 1, none⟩ (.int .i64 ((r.ps : Int) + (k : Int))))) := fun W hW => by
    rw [numR, if_pos hb, if_pos hl, ← Int.natCast_add];exact hW.setAt hl
   have HNm : Hid ((numR p k r).1 = Pl.num k (p.bs.drop r.ps)) := by
    unfold Hid;rw [numR, if_pos hb, if_pos hl]
   rw [HNm.out];generalize Pl.num k (p.bs.drop r.ps) = n at *;have hw1 : IntKind.i64.wrap ((r.ps : Int) + (k : Int)) = ((r.ps + k : Nat) : Int) := by rw [IntKind.wrap_i64]; omega
   have hw2 : IntKind.i64.wrap (n : Int) = (n : Int) := by rw [IntKind.wrap_i64]; omega
   have hne : cap ≠ r.ps := by omega
   have hbb : r.ps ≤ p.bs.length := by omega
   clear h hn q3 q4 q5 hb HNm;go_enter Tryz.func106, Tryz.ntmps106
   go_wp2_with fail
   go_quiet (fail)
   have HK1 := Lib.hid (HK.out nq);generalize w.drewN nq = W1 at *;clear HK c0 c1 c2 c3 f1 f3;have c0 := HK1.out.cell0;have c1 := HK1.out.cell1;have HKd : Hid (Rk rb (.slice ao p.bs.length cap) p w0 r W1.drew) := HK1.out.below ⟨rfl, rfl, rfl, Nat.le_refl _, fun _ _ => rfl⟩;go_wp2_with fail
   go_region_law (first
    | (refine step_callQ rfl 69 #[.tmp 38, .tmp 39] #[43, 3] rfl HE.out #[.slice (Option.map (fun x => x.add r.ps) ao) (p.bs.length - r.ps) (cap - r.ps), .int .i64 (k : Int)] (by first | (simp [Act.eval]; done) | simp [Act.eval, Act.put]) (HC.out _ HKd.out) ?_; rintro u w1 ⟨rfl, hw⟩; have hw := hw.symm; subst hw))
   all_goals
    have d1 := HKd.out.cell1;have e1 := HKd.out.free 1;have HF1 := Lib.hid (HF.out _ HKd.out);clear c0 c1 HC HE HK1 HKd HF;generalize W1.drew = W2 at *;go_wp2_with fail
    go_ret
    exact ⟨rfl, HF1.out⟩
  ·have d4 : decide ((k : Int) > ((p.en - r.ps : Nat) : Int)) = true := decide_eq_true (by omega);have HR : Hid (∀ n, Calls Tryz.prog 112 #[.pointer (some ⟨rb, 0, none⟩), .int .i64 (r.ps : Int)] (w.drewN n) fun e w' => e = .returned (.tuple #[]) ∧ Rk rb raw p w0 (numR p k r).2 w') := fun n => by
    have := drefuseQ (w := w.drewN n) (h.below ⟨rfl, rfl, rfl, Nat.le_refl _, fun _ _ => rfl⟩) (a := r.ps) hle;rw [show (numR p k r).2 = refR r.ps r by rw [numR, if_pos hb, if_neg hl, refR, if_pos hb]];exact this
   rw [show (numR p k r).1 = 0 by rw [numR, if_pos hb, if_neg hl]];clear h hb;go_enter Tryz.func106, Tryz.ntmps106
   go_wp2_with fail
   go_quiet (fail)
   go_wp2_with fail
   refine (HR.out _).mono ?_;rintro e w1 ⟨rfl, h1⟩;have H1 := Lib.hid h1;clear h1 HR;go_wp2_with fail
   go_ret
   exact ⟨rfl, H1.out⟩
 ·have d3 : decide (r.bad ≥ 0) = true := decide_eq_true (by omega);have HF : Hid (Rk rb raw p w0 (numR p k r).2 w) := by
   unfold Hid;rw [numR, if_neg hb];exact h
  rw [show (numR p k r).1 = 0 by rw [numR, if_neg hb]];clear h hb;go_enter Tryz.func106, Tryz.ntmps106
  go_wp2_with fail
  go_ret
  exact ⟨rfl, HF.out⟩
theorem dnum1Q (h : Rk rb raw p w0 r w) : Calls Tryz.prog 106 #[.pointer (some ⟨rb, 0, none⟩), .int .i64 1] w fun e w' => e = .returned (.int .i64 ((numR p 1 r).1 : Int)) ∧ Rk rb raw p w0 (numR p 1 r).2 w' := dnumberQ h (k := 1) (by decide) (by decide)
theorem dnum2Q (h : Rk rb raw p w0 r w) : Calls Tryz.prog 106 #[.pointer (some ⟨rb, 0, none⟩), .int .i64 2] w fun e w' => e = .returned (.int .i64 ((numR p 2 r).1 : Int)) ∧ Rk rb raw p w0 (numR p 2 r).2 w' := dnumberQ h (k := 2) (by decide) (by decide)
theorem dnum4Q (h : Rk rb raw p w0 r w) : Calls Tryz.prog 106 #[.pointer (some ⟨rb, 0, none⟩), .int .i64 4] w fun e w' => e = .returned (.int .i64 ((numR p 4 r).1 : Int)) ∧ Rk rb raw p w0 (numR p 4 r).2 w' := dnumberQ h (k := 4) (by decide) (by decide)
theorem numR_lt (h : Rk rb raw p w0 r w) (k : Nat) : (numR p k r).1 < 256 ^ k := by
 unfold numR
 split
 ·split
  ·exact Pl.acc_lt (fun z hz => h.sl.small z (List.mem_of_mem_drop hz)) 0 k
  ·exact Nat.pow_pos (by decide)
 ·exact Nat.pow_pos (by decide)
theorem dlongQ (h : Rk rb raw p w0 r w) : Calls Tryz.prog 107 #[.pointer (some ⟨rb, 0, none⟩)] w fun e w' => e = .returned (.int .u64 ((numR p 8 r).1 : Int)) ∧ Rk rb raw p w0 (numR p 8 r).2 w' := by
 have c3 := h.cell3;have f3 := h.free 3
 by_cases hb : r.bad < 0
 ·have d3 : decide (r.bad < 0) = true := decide_eq_true hb;have d5 : decide (r.bad ≥ 0) = false := decide_eq_false (by omega);have c1 := h.cell1;have c2 := h.cell2;have f1 := h.free 1;have hen := h.en;have hsz := h.sz;have hle := h.le;have hw0 : IntKind.i64.wrap ((p.en : Int) - (r.ps : Int)) = ((p.en - r.ps : Nat) : Int) := by rw [IntKind.wrap_i64]; omega
  by_cases hl : r.ps + 8 ≤ p.en
  ·have d4 : decide ((8 : Int) > ((p.en - r.ps : Nat) : Int)) = false := decide_eq_false (by omega);have c0 := h.cell0;obtain ⟨ao, cap, rfl, q1, q2, q3, q4, q5⟩ := id h.sl;unfold maxLen at q2;have HC : Hid (∀ W, Rk rb (.slice ao p.bs.length cap) p w0 r W → Calls Tryz.prog 69 #[.slice (Option.map (fun x => x.add r.ps) ao) (p.bs.length - r.ps) (cap - r.ps), .int .i64 8] W fun e w' => ∃ v, e = .returned v ∧ (v = .tuple #[.int .u64 (Pl.num 8 (p.bs.drop r.ps) : Nat), .bool true] ∧ w' = W)) := fun W hW => (rNumber_yes (s := 8) (by omega) (hW.sl.cut (fr := r.ps) (by omega)) (by rw [List.length_drop]; omega) (by decide)).mono (fun e w' h9 => ⟨_, h9.1, rfl, h9.2⟩);have HE : Hid (Enters Tryz.prog 69) := enters_of Tryz.func69 (by kernel_rfl) rfl;have HK : Hid (∀ n, Rk rb (.slice ao p.bs.length cap) p w0 r (w.drewN n)) := fun n => h.below ⟨rfl, rfl, rfl, Nat.le_refl _, fun _ _ => rfl⟩;have HF : Hid (∀ W, Rk rb (.slice ao p.bs.length cap) p w0 r W → Rk rb (.slice ao p.bs.length cap) p w0 (numR p 8 r).2 (W.setCell ⟨rb, 1, none⟩ (.int .i64 ((r.ps : Int) + 8)))) := fun W hW => by
    rw [numR, if_pos hb, if_pos hl, show (r.ps : Int) + 8 = ((r.ps + 8 : Nat) : Int) by omega];exact hW.setAt hl
   have HNm : Hid ((numR p 8 r).1 = Pl.num 8 (p.bs.drop r.ps)) := by
    unfold Hid;rw [numR, if_pos hb, if_pos hl]
   rw [HNm.out];generalize Pl.num 8 (p.bs.drop r.ps) = n at *;have hw1 : IntKind.i64.wrap ((r.ps : Int) + 8) = (r.ps : Int) + 8 := by rw [IntKind.wrap_i64]; omega
   have hne : cap ≠ r.ps := by omega
   have hbb : r.ps ≤ p.bs.length := by omega
   clear h q3 q4 q5 HNm;go_enter Tryz.func107, Tryz.ntmps107
   go_wp2_with fail
   go_quiet (fail)
   have HK1 := Lib.hid (HK.out nq);generalize w.drewN nq = W1 at *;clear HK c0 c1 c2 c3 f1 f3;have c0 := HK1.out.cell0;have c1 := HK1.out.cell1;have c3 := HK1.out.cell3;have HKd : Hid (Rk rb (.slice ao p.bs.length cap) p w0 r W1.drew) := HK1.out.below ⟨rfl, rfl, rfl, Nat.le_refl _, fun _ _ => rfl⟩;go_wp2_with fail
   go_region_law (first
    | (refine step_callQ rfl 69 #[.tmp 42, .const (.int .i64 8)] #[43, 3] rfl HE.out #[.slice (Option.map (fun x => x.add r.ps) ao) (p.bs.length - r.ps) (cap - r.ps), .int .i64 8] (by first | (simp [Act.eval]; done) | simp [Act.eval, Act.put]) (HC.out _ HKd.out) ?_; rintro u w1 ⟨rfl, hw⟩; have hw := hw.symm; subst hw))
   all_goals
    have d1 := HKd.out.cell1;have e1 := HKd.out.free 1;have HF1 := Lib.hid (HF.out _ HKd.out);clear c0 c1 c3 HC HE HK1 HKd HF;generalize W1.drew = W2 at *;go_wp2_with fail
    go_ret
    exact ⟨rfl, HF1.out⟩
  ·have d4 : decide ((8 : Int) > ((p.en - r.ps : Nat) : Int)) = true := decide_eq_true (by omega);have d6 : decide ((r.ps : Int) ≥ 0) = true := decide_eq_true (by omega);have HR : Hid (∀ n, Calls Tryz.prog 112 #[.pointer (some ⟨rb, 0, none⟩), .int .i64 (r.ps : Int)] (w.drewN n) fun e w' => e = .returned (.tuple #[]) ∧ Rk rb raw p w0 ⟨r.ps, (r.ps : Int)⟩ w') := fun n => by
    have := drefuseQ (w := w.drewN n) (h.below ⟨rfl, rfl, rfl, Nat.le_refl _, fun _ _ => rfl⟩) (a := r.ps) hle;rw [refR, if_pos hb] at this;exact this
   rw [show numR p 8 r = (0, ⟨r.ps, (r.ps : Int)⟩) by rw [numR, if_pos hb, if_neg hl]];clear h;go_enter Tryz.func107, Tryz.ntmps107
   go_wp2_with fail
   go_quiet (fail)
   go_wp2_with fail
   refine (HR.out _).mono ?_;rintro e w1 ⟨rfl, h1⟩;have H1 := Lib.hid h1;have g3 := h1.cell3;have k3 := h1.free 3;clear h1 HR;go_wp2_with fail
   go_ret
   exact ⟨rfl, H1.out⟩
 ·have d3 : decide (r.bad < 0) = false := decide_eq_false hb;have d5 : decide (r.bad ≥ 0) = true := decide_eq_true (by omega);have HF : Hid (∀ n, Rk rb raw p w0 (numR p 8 r).2 (w.drewN n)) := fun n => by
   rw [numR, if_neg hb];exact h.below ⟨rfl, rfl, rfl, Nat.le_refl _, fun _ _ => rfl⟩
  rw [show (numR p 8 r).1 = 0 by rw [numR, if_neg hb]];clear h;go_enter Tryz.func107, Tryz.ntmps107
  go_wp2_with fail
  go_quiet (fail)
  go_wp2_with fail
  go_ret
  exact ⟨rfl, HF.out _⟩
theorem dnoneQ (h : Rk rb raw p w0 r w) : Calls Tryz.prog 111 #[.pointer (some ⟨rb, 0, none⟩)] w fun e w' => e = .returned (.int .i64 (noneR p r).1) ∧ Rk rb raw p w0 (noneR p r).2 w' := by
 have HC := Lib.hid (dnum2Q h);have HX : Hid ((noneR p r) = (Dc.noneV (numR p 2 r).1, (numR p 2 r).2)) := (rfl : _ = _)
 rw [HX.out];clear h HX;obtain ⟨⟨n, r2⟩, hn⟩ : ∃ x, numR p 2 r = x := ⟨_, rfl⟩
 rw [hn] at HC ⊢;clear hn
 by_cases h5 : n = 65535
 ·subst h5;go_enter Tryz.func111, Tryz.ntmps111
  go_wp2_with fail
  refine HC.out.mono ?_;rintro e w1 ⟨rfl, h1⟩;have H1 := Lib.hid h1;clear h1 HC;go_wp2_with fail
  go_ret
  exact ⟨rfl, H1.out⟩
 ·have d5 : ((n : Int) == 65535) = false := by simp; omega
  have hv : Dc.noneV n = (n : Int) := by rw [Dc.noneV, if_neg h5]
  rw [hv];clear hv;go_enter Tryz.func111, Tryz.ntmps111
  go_wp2_with fail
  refine HC.out.mono ?_;rintro e w1 ⟨rfl, h1⟩;have H1 := Lib.hid h1;clear h1 HC;go_wp2_with fail
  go_ret
  exact ⟨rfl, H1.out⟩
theorem dflagQ (h : Rk rb raw p w0 r w) : Calls Tryz.prog 110 #[.pointer (some ⟨rb, 0, none⟩)] w fun e w' => e = .returned (.bool (flagR p r).1) ∧ Rk rb raw p w0 (flagR p r).2 w' := by
 have HC := Lib.hid (dnum1Q h);have c1 := h.cell1;have f1 := h.free 1;have hle := h.le;have HX : Hid ((flagR p r) = (decide ((numR p 1 r).1 = 1), if (numR p 1 r).1 ≤ 1 then (numR p 1 r).2 else refR r.ps (numR p 1 r).2)) := (rfl : _ = _)
 rw [HX.out];clear h HX;obtain ⟨⟨n, r2⟩, hn⟩ : ∃ x, numR p 1 r = x := ⟨_, rfl⟩
 rw [hn] at HC ⊢;clear hn
 by_cases h5 : n ≤ 1
 ·have d5 : decide ((n : Int) > 1) = false := decide_eq_false (by omega);have d6 : ((n : Int) == 1) = decide (n = 1) := by by_cases h : n = 1 <;> simp [h]; omega
  simp only [if_pos h5];go_enter Tryz.func110, Tryz.ntmps110
  go_wp2_with fail
  refine HC.out.mono ?_;rintro e w1 ⟨rfl, h1⟩;have H1 := Lib.hid h1;clear h1 HC;go_wp2_with fail
  go_ret
  exact ⟨by first | rfl | (simp; done) | (rw [← d6]), H1.out⟩
 ·have d5 : decide ((n : Int) > 1) = true := decide_eq_true (by omega);have d6 : ((n : Int) == 1) = false := by simp; omega
  simp only [if_neg h5, decide_eq_false (show ¬ n = 1 by omega)];go_enter Tryz.func110, Tryz.ntmps110
  go_wp2_with fail
  refine HC.out.mono ?_;rintro e w1 ⟨rfl, h1⟩;have H1 := Lib.hid (drefuseQ h1 hle);clear h1 HC;go_wp2_with fail
  refine H1.out.mono ?_;rintro e w2 ⟨rfl, h2⟩;have H2 := Lib.hid h2;clear h2 H1;go_wp2_with fail
  go_ret
  exact ⟨rfl, H2.out⟩
end
end Go.Proofs.YtmfkggngjeolcaaGreatDoor
namespace Go.Proofs.YtmfkggngjeolcaaGreatDoor
open Go.RowKit Bn Dd
open Dc (allZ)
namespace Dd
def zer1 (p : Q) (n : Nat) (r : R) : R := if r.bad < 0 then if r.ps + n ≤ p.en then r else ⟨r.ps, (r.ps : Int)⟩ else r
def zerS (p : Q) (n i : Nat) (r : R) : R := if (zer1 p n r).bad < 0 then if allZ ((p.bs.drop r.ps).take i) = true then zer1 p n r else ⟨r.ps, (r.ps : Int)⟩ else zer1 p n r
theorem zerS_zero (p : Q) (n : Nat) (r : R) : zerS p n 0 r = zer1 p n r := by
 unfold zerS;rw [List.take_zero, if_pos (show allZ [] = true from rfl)]
 split <;> rfl
theorem zerS_go {p : Q} {n i : Nat} {r : R} (h : (zerS p n i r).bad < 0) : r.bad < 0 ∧ r.ps + n ≤ p.en ∧ zerS p n i r = r ∧ allZ ((p.bs.drop r.ps).take i) = true := by
 have hb : (zer1 p n r).bad < 0 := by
  unfold zerS at h
  split at h
  ·assumption
  ·exact h
 have h1 : r.bad < 0 ∧ r.ps + n ≤ p.en ∧ zer1 p n r = r := by
  unfold zer1 at hb ⊢
  split at hb
  ·rename_i h1
   rw [if_pos h1]
   split at hb
   ·rename_i h2
    rw [if_pos h2];exact ⟨h1, h2, rfl⟩
   ·simp only at hb;omega
  ·rename_i h1
   exact absurd hb h1
 have h2 : allZ ((p.bs.drop r.ps).take i) = true := by
  unfold zerS at h;rw [if_pos hb] at h
  split at h
  ·assumption
  ·simp only at h;omega
 refine ⟨h1.1, h1.2.1, ?_, h2⟩;unfold zerS;rw [if_pos hb, if_pos h2];exact h1.2.2
theorem zerS_next {p : Q} {n i : Nat} {r : R} (h : (zerS p n i r).bad < 0) (hi : i < n) (hen : p.en ≤ p.bs.length) : zerS p n (i + 1) r = if p.bs.getD (r.ps + i) 0 = 0 then r else ⟨r.ps, (r.ps : Int)⟩ := by
 obtain ⟨h1, h2, h3, h4⟩ := zerS_go h;have hz : zer1 p n r = r := by
  unfold zer1;rw [if_pos h1, if_pos h2]
 have ht : (p.bs.drop r.ps).take (i + 1) = (p.bs.drop r.ps).take i ++ [p.bs.getD (r.ps + i) 0] := by
  rw [List.take_add_one, List.getElem?_drop, List.getD_eq_getElem?_getD, List.getElem?_eq_getElem (by omega)]
  rfl
 unfold zerS;rw [hz, if_pos h1, ht];have h4' : ∀ z ∈ (p.bs.drop r.ps).take i, z = 0 := of_decide_eq_true h4
 by_cases e : p.bs.getD (r.ps + i) 0 = 0
 ·rw [if_pos e, if_pos];refine decide_eq_true (fun z hz => ?_);rcases List.mem_append.1 hz with h | h
  ·exact h4' z h
  ·simp only [List.mem_singleton] at h;rw [h]; exact e
 ·rw [if_neg e, if_neg];intro h;exact e (of_decide_eq_true h _ (List.mem_append.2 (.inr (by simp))))
theorem allZ_take {l : List Nat} {i n : Nat} (hi : i ≤ n) (h : allZ (l.take n) = true) : allZ (l.take i) = true := by
 have h' : ∀ z ∈ l.take n, z = 0 := of_decide_eq_true h;exact decide_eq_true (fun z hz => h' z (by
  have : l.take i = (l.take n).take i := by rw [List.take_take, Nat.min_eq_left hi]
  rw [this] at hz;exact List.mem_of_mem_take hz))
theorem zerS_stop {p : Q} {n i : Nat} {r : R} (h : ¬ (zerS p n i r).bad < 0) (hi : i ≤ n) : zerS p n n r = zerS p n i r := by
 unfold zerS at h ⊢
 split
 ·rename_i h1
  rw [if_pos h1] at h
  split at h
  ·exact absurd h1 h
  ·rename_i h2
   rw [if_neg h2, if_neg (fun e => h2 (allZ_take hi e))]
 ·rfl
theorem zerS_end (p : Q) (n : Nat) (r : R) : (if (zerS p n n r).bad < 0 then ⟨r.ps + n, (zerS p n n r).bad⟩ else zerS p n n r) = zerosR p n r := by
 unfold zerosR
 by_cases h : (zerS p n n r).bad < 0
 ·obtain ⟨h1, h2, h3, h4⟩ := zerS_go h;rw [if_pos h, if_pos h1, if_pos h2, if_pos h4, h3]
 ·rw [if_neg h];unfold zerS zer1 at h ⊢
  by_cases h1 : r.bad < 0
  ·rw [if_pos h1] at h ⊢
   by_cases h2 : r.ps + n ≤ p.en
   ·rw [if_pos h2, if_pos h1] at h ⊢;rw [if_pos h1, if_pos h2]
    by_cases h4 : allZ ((p.bs.drop r.ps).take n) = true
    ·rw [if_pos h4] at h;exact absurd h1 h
    ·rw [if_neg h4, if_neg h4]
   ·rw [if_neg h2] at h ⊢;rw [if_neg (by simp only; omega), if_pos h1, if_neg h2]
  ·rw [if_neg h1, if_neg h1, if_neg h1]
end Dd
section
variable {rb : Nat} {raw : Value} {p : Q} {w0 w w' : World} {r : R}
theorem dzerosQ (h : Rk rb raw p w0 r w) {n : Nat} (hn : n ≤ 1048576) : Calls Tryz.prog 108 #[.pointer (some ⟨rb, 0, none⟩), .int .i64 (n : Int)] w fun e w' => e = .returned (.tuple #[]) ∧ Rk rb raw p w0 (zerosR p n r) w' := by
 have c1 := h.cell1;have c2 := h.cell2;have c3 := h.cell3;have hen := h.en;have hsz := h.sz;have hle := h.le;have hw0 : IntKind.i64.wrap ((p.en : Int) - (r.ps : Int)) = ((p.en - r.ps : Nat) : Int) := by rw [IntKind.wrap_i64]; omega
 have hwn : IntKind.i64.wrap ((r.ps : Int) + (n : Int)) = ((r.ps + n : Nat) : Int) := by rw [IntKind.wrap_i64]; omega
 have HS : Hid (Rk rb raw p w0 r w) := h;have HD : Hid (∀ m W t, Rk rb raw p w0 t W → Rk rb raw p w0 t (W.drewN m)) := fun m W t hW => hW.below ⟨rfl, rfl, rfl, Nat.le_refl _, fun _ _ => rfl⟩;obtain ⟨ao, cap, rfl, q1, q2, q3, q4, q5⟩ := id h.sl;unfold maxLen at q2;have HRf : Hid (∀ W t, Rk rb (.slice ao p.bs.length cap) p w0 t W → Calls Tryz.prog 112 #[.pointer (some ⟨rb, 0, none⟩), .int .i64 (r.ps : Int)] W fun e w' => e = .returned (.tuple #[]) ∧ Rk rb (.slice ao p.bs.length cap) p w0 (refR r.ps t) w') := fun W t hW => drefuseQ hW hle;have HEn : Hid (r.ps ≤ p.en ∧ p.en ≤ p.bs.length ∧ p.bs.length ≤ 1099511627776) := ⟨hle, hen, hsz⟩
 clear h q3 q4 q5;go_enter Tryz.func108, Tryz.ntmps108
 go_upto_region 1 with fail
 obtain ⟨bb, hbb⟩ : ∃ bb, decide (r.bad < 0 ∧ p.en < r.ps + n) = bb := ⟨_, rfl⟩
 have HBB := Lib.hid hbb;clear hbb;go_cut [27] (fun y wx => y = .bool bb ∧ Hid (Rk rb (.slice ao p.bs.length cap) p w0 r wx))
 case first =>
  by_cases hb : r.bad < 0
  ·have d3 : decide (r.bad < 0) = true := decide_eq_true hb
   by_cases hl : r.ps + n ≤ p.en
   ·have d4 : decide ((n : Int) > ((p.en - r.ps : Nat) : Int)) = false := decide_eq_false (by omega);have d5 : decide (p.en - r.ps < n) = false := decide_eq_false (by omega);go_quiet (fail)
    go_wp2_with fail
    go_meet
    exact ⟨by rw [← HBB.out, decide_eq_false (show ¬ (r.bad < 0 ∧ p.en < r.ps + n) by omega)], HD.out _ _ _ HS.out⟩
   ·have d4 : decide ((n : Int) > ((p.en - r.ps : Nat) : Int)) = true := decide_eq_true (by omega);have d5 : decide (p.en - r.ps < n) = true := decide_eq_true (by omega);go_quiet (fail)
    go_wp2_with fail
    go_meet
    exact ⟨by rw [← HBB.out, decide_eq_true (show (r.bad < 0 ∧ p.en < r.ps + n) by omega)], HD.out _ _ _ HS.out⟩
  ·have d3 : decide (r.bad < 0) = false := decide_eq_false hb;go_quiet (fail)
   go_wp2_with fail
   go_meet
   exact ⟨by rw [← HBB.out, decide_eq_false (show ¬ (r.bad < 0 ∧ p.en < r.ps + n) by omega)], HD.out _ _ _ HS.out⟩
 case rest =>
 obtain ⟨rfl, hS1⟩ := hcut;clear HS c1 c2 c3 hw0;go_upto_if 27 with fail
 go_cut [] (fun wx => Hid (Rk rb (.slice ao p.bs.length cap) p w0 (zer1 p n r) wx))
 case first =>
  cases bb with
  | true =>
   have HZ : Hid (zer1 p n r = refR r.ps r) := show _ = _ by
    have h1 := of_decide_eq_true HBB.out;rw [zer1, if_pos h1.1, if_neg (by omega), refR, if_pos h1.1]
   go_wp2_with fail
   refine (HRf.out _ _ hS1.out).mono ?_;rintro e w1 ⟨rfl, h1⟩;have H1 := Lib.hid h1;clear h1;go_wp2_with fail
   go_meet
   exact (by rw [HZ.out]; exact H1)
  | false =>
   have HZ : Hid (zer1 p n r = r) := show _ = _ by
    have h1 := of_decide_eq_false HBB.out;unfold zer1
    split
    ·rw [if_pos (by omega)]
    ·rfl
   go_wp2_with fail
   go_meet
   exact (by rw [HZ.out]; exact hS1)
 case rest =>
  have H0 : Hid (Rk rb (.slice ao p.bs.length cap) p w0 (zerS p n 0 r) wc) := by rw [zerS_zero]; exact hcut
  clear hcut;go_wp2_with fail
  go_loopw [5] (fun iv wr => ∃ i : Nat, i ≤ n ∧ iv = .int .i64 (i : Int) ∧ Hid (Rk rb (.slice ao p.bs.length cap) p w0 (zerS p n i r) wr)) (fun iv _ => n - (intOf iv).toNat)
  case atStart => exact ⟨0, Nat.zero_le _, rfl, H0⟩
  case round =>
   clear H0;obtain ⟨i, hi, rfl, HI⟩ := hrel
   by_cases hb : (zerS p n i r).bad < 0
   ·have k3 := HI.out.cell3;obtain ⟨t, ht⟩ : ∃ t, (zerS p n i r).bad = t := ⟨_, rfl⟩
    rw [ht] at k3 hb;have d3 : decide (t < 0) = true := decide_eq_true hb;have HT := Lib.hid ht;clear ht
    by_cases hin : i < n
    ·have ji : (i : Int) < (n : Int) := by omega
     have HGo := Lib.hid (zerS_go (show (zerS p n i r).bad < 0 by rw [HT.out]; exact hb));have HNx := Lib.hid (zerS_next (show (zerS p n i r).bad < 0 by rw [HT.out]; exact hb) hin hen);obtain ⟨a2, c2, e2, _, _, z3, _, z5⟩ := HI.out.sl;simp only [Value.slice.injEq] at e2;obtain ⟨rfl, _, rfl⟩ := e2;obtain ⟨bb, of, rfl, hc⟩ := z5 (r.ps + i) (by have := HGo.out.2.1; omega);have hzs := Pl.mem_getD (k := r.ps + i) z3;clear z3 z5;generalize p.bs.getD (r.ps + i) 0 = z at *;have k0 := HI.out.cell0;have hw1 : IntKind.i64.wrap ((r.ps : Int) + (i : Int)) = ((r.ps + i : Nat) : Int) := by rw [IntKind.wrap_i64]; omega
     have hw2 : IntKind.i64.wrap ((i : Int) + 1) = ((i + 1 : Nat) : Int) := by rw [IntKind.wrap_i64]; omega
     have hlt : r.ps + i < p.bs.length := by have := HGo.out.2.1; omega
     by_cases hz : z = 0
     ·subst hz;have HF : Hid (Rk rb (.slice (some ⟨bb, of, none⟩) p.bs.length cap) p w0 (zerS p n (i + 1) r) wr) := by
       unfold Hid;rw [HNx.out, if_pos rfl, ← HGo.out.2.2.1];exact HI.out
      clear HI HNx HGo HT hwn;go_wp2_with fail
      go_roundw
      case rel => exact ⟨i + 1, by omega, rfl, HF⟩
      case measure => simp [intOf]; omega
     ·have dz : ((z : Int) != 0) = true := by simp; omega
      have HR1 := Lib.hid (HRf.out _ _ HI.out);have HX : Hid (zerS p n (i + 1) r = refR r.ps (zerS p n i r)) := show _ = _ by
       rw [HNx.out, if_neg hz, HGo.out.2.2.1, refR, if_pos HGo.out.1]
      rw [← HX.out] at HR1;clear HI HNx HGo HT HX hwn;go_wp2_with fail
      refine HR1.out.mono ?_;rintro e w1 ⟨rfl, h1⟩;have H1 := Lib.hid h1;clear h1 HR1;go_wp2_with fail
      go_roundw
      case rel => exact ⟨i + 1, by omega, rfl, H1⟩
      case measure => simp [intOf]; omega
    ·obtain rfl : i = n := by omega
     have ji : ¬ (i : Int) < (i : Int) := by omega
     have HE := Lib.hid (zerS_end p i r);have HGo := Lib.hid (zerS_go (show (zerS p i i r).bad < 0 by rw [HT.out]; exact hb));have HF : Hid (∀ W, Rk rb (.slice ao p.bs.length cap) p w0 (zerS p i i r) W → Rk rb (.slice ao p.bs.length cap) p w0 (zerosR p i r) (W.setCell ⟨rb, 1, none⟩ (.int .i64 ((r.ps + i : Nat) : Int)))) := fun W hW => by
      rw [← HE.out, if_pos (show (zerS p i i r).bad < 0 by rw [HT.out]; exact hb)];exact hW.setAt (HGo.out.2.1)
     have HF1 := Lib.hid (HF.out _ HI.out);have k1 := HI.out.cell1;have f1 := HI.out.free 1;clear HI HF HE HGo HT;go_wp2_with fail
     go_end0
     exact ⟨rfl, HF1.out⟩
   ·have HSt : Hid (Rk rb (.slice ao p.bs.length cap) p w0 (zerosR p n r) wr) := by
     unfold Hid;rw [← zerS_end p n r, zerS_stop hb hi, if_neg hb];exact HI.out
    have k3 := HI.out.cell3;obtain ⟨t, ht⟩ : ∃ t, (zerS p n i r).bad = t := ⟨_, rfl⟩
    rw [ht] at k3 hb;have d3 : decide (t < 0) = false := decide_eq_false hb;clear HI ht
    by_cases hin : i < n
    ·have ji : (i : Int) < (n : Int) := by omega
     go_wp2_with fail
     go_end0
     exact ⟨rfl, HSt.out⟩
    ·have ji : ¬ (i : Int) < (n : Int) := by omega
     go_wp2_with fail
     go_end0
     exact ⟨rfl, HSt.out⟩
theorem dcountQ (h : Rk rb raw p w0 r w) : Calls Tryz.prog 109 #[.pointer (some ⟨rb, 0, none⟩)] w fun e w' => e = .returned (.int .i64 ((manyR p r).1 : Int)) ∧ Rk rb raw p w0 (manyR p r).2 w' := by
 have HC := Lib.hid (dnum2Q h);have HX : Hid (manyR p r = ((numR p 2 r).1, zerosR p 6 (numR p 2 r).2)) := (rfl : _ = _)
 rw [HX.out];clear HX;obtain ⟨⟨n, r2⟩, hn⟩ : ∃ x, numR p 2 r = x := ⟨_, rfl⟩
 rw [hn] at HC ⊢;have HZ : Hid (∀ W, Rk rb raw p w0 r2 W → Calls Tryz.prog 108 #[.pointer (some ⟨rb, 0, none⟩), .int .i64 6] W fun e w' => e = .returned (.tuple #[]) ∧ Rk rb raw p w0 (zerosR p 6 r2) w') := fun W hW => dzerosQ hW (n := 6) (by decide);clear hn h;go_enter Tryz.func109, Tryz.ntmps109
 go_wp2_with fail
 refine HC.out.mono ?_;rintro e w1 ⟨rfl, h1⟩;have H1 := Lib.hid (HZ.out _ h1);clear h1 HC HZ;go_wp2_with fail
 refine H1.out.mono ?_;rintro e w2 ⟨rfl, h2⟩;have H2 := Lib.hid h2;clear h2 H1;go_wp2_with fail
 go_ret
 exact ⟨rfl, H2.out⟩
end
end Go.Proofs.YtmfkggngjeolcaaGreatDoor
namespace Go.Proofs.YtmfkggngjeolcaaGreatDoor
open Go.RowKit Bn Dc
theorem step_appG1 {β : Type} {enc : β → List Value} {w : World} {base : Nat} {ops : Array Oper} {o : Oper} {a : Act} {K : Act → World → Prop} {Q : Exit → Act → World → Prop} {E : Prop} (hw : Region.wanted o (yielded ops a.tmps) = true) (tS tE : TypeId) (s y : Operand)
  (ho : o.op = .call { callee := .builtin .append, args := #[s, y], argTypes := #[tS, tS] }) (k b : Nat) (z : Value) (hu : Tryz.prog.underlying tS = some (.slice tE)) (hi : (Tryz.prog.info? tE).map (fun i => (i.zero, i.size, i.bytes)) = some (some z, k, b)) (hk : 0 < k) (hzs : z.cells.size = k) (hb : b ≤ 4096) (he : EncOk k enc)
  {v : Value} {xs : List β} {x : β} {g cap : Nat} (hs : a.eval s = v) (hv : OwnG tE k enc w base v xs) (hy : a.eval y = .slice (some ⟨g, 0, none⟩) 1 cap) (hx : w.heap[g]? = some (.cells (enc x).toArray tE (0, 0))) (hlen : xs.length ≤ 4194304) (hbase : base ≤ w.heap.size)
  (h : ∀ va vc w', Hid (OwnG tE k enc w' base (.slice va (xs.length + 1) vc) (xs ++ [x])) → Hid (w.grownBy w' v.ownBlock) → K (a.put o.dst (.slice va (xs.length + 1) vc)) w') : if Region.wanted o (yielded ops a.tmps) = true then Oper.wp Tryz.prog o a w K Q else E := by
 rw [if_pos hw];have hx2 : RowG k enc w (.slice (some ⟨g, 0, none⟩) 1 cap) [x] ∨ True := .inr trivial;clear hx2;obtain ⟨i, hi, hz0, hz1, hz2⟩ := info_parts hi;have hby : (xs.length + 1) * b ≤ 140737488355328 := by
  have : (xs.length + 1) * b ≤ 4194305 * 4096 := Nat.mul_le_mul (by omega) hb;omega
 obtain ⟨v', w', r1, r2, r3, _⟩ := run_append_own_at (P := Tryz.prog) w base tS o.type tE i z k b hu hi hz0 hz1 hz2 hzs hk v xs.length (encs enc xs) hv ⟨g, 0, none⟩ 1 cap (enc x) (by rw [he.len]; omega) (fun j u hj => by
  rw [Addr.add_lit, Nat.zero_add, cell_of_row _ _ _ _ _ _ hx, ← Array.getElem?_toList];exact hj) (he.one x) (by unfold maxLen; omega) hby hbase
 have h2 : OwnG tE k enc w' base v' (xs ++ [x]) := by
  unfold OwnG;rw [List.length_append, encs_snoc];exact r2
 obtain ⟨va, vc, rfl, _⟩ := h2.form;rw [List.length_append] at h2 r1;unfold Oper.wp execOp;simp only [ho, resolve, invoke, builtin, Sem.run_bind, Sem.run_pure, Result.andThen_ok, List.map_toArray, List.map_cons, List.map_nil, hs, hy, r1];exact h va vc w' h2 r3
end Go.Proofs.YtmfkggngjeolcaaGreatDoor
