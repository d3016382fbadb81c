/- lays: bytes that are handed in; no step; any step. Own work. -/
import Derived.Test.YtceljnkbkpgdjaaDoorLyBoth
namespace Go.Proofs.YtceljnkbkpgdjaaDoor
open Go.RowKit
set_option linter.unusedVariables false
theorem LaysPost.after {w w1 w3 w' : World} {p r base g : Nat} {v u : Value} {x : List Nat × Int} {zs : List Nat} {why : Int} {e e' : Ending} (hw : Wr w p v zs why base) (hr : Rw w r u zs why base) (k0 : Keeps (fun _ => False) w w1) (hg : w.heap.size ≤ g) (hg1 : g < w1.heap.size) (h : LaysPost w1 p r base v u x e w3) (k : Keeps (fun k => k = g) w3 w') (he : e' = .returned (.bool true)) : LaysPost w p r base v u x e' w' := by
  obtain ⟨_, v', u', a1, a2, a3, a4, a5, a6⟩ := h
  have lp := hw.lt
  have lr := hr.lt
  have gv : ∀ q, v'.ownBlock = some q → q ≠ g := fun q hq e => by
    rcases a4 with a4 | ⟨q', a4, hl⟩
    · have := (hw.2.1.lt q (a4.symm.trans hq)).2
      omega
    · rw [a4] at hq
      cases hq
      omega
  have gu : ∀ q, u'.ownBlock = some q → q ≠ g := fun q hq e => by
    rcases a5 with a5 | ⟨q', a5, hl⟩
    · have := (hr.2.1.lt q (a5.symm.trans hq)).2
      omega
    · rw [a5] at hq
      cases hq
      omega
  refine ⟨he, v', u', a1.keeps k (by omega) gv, a2.keeps k (by omega) gu, ?_, ?_, ?_, a6⟩
  · refine ((k0.mono (S' := fun k => Foot p v k ∨ Foot r u k) (fun _ _ e => e.elim)).trans a3 (fun _ _ e => e)).trans k (fun i hi e => ?_)
    omega
  · rcases a4 with a4 | ⟨q, a4, hl⟩
    · exact .inl a4
    · exact .inr ⟨q, a4, Nat.le_trans k0.size hl⟩
  · rcases a5 with a5 | ⟨q, a5, hl⟩
    · exact .inl a5
    · exact .inr ⟨q, a5, Nat.le_trans k0.size hl⟩
theorem Sl.keepsE {S : Nat → Prop} {w w' : World} {v : Value} {zs : List Nat} (h : Sl w v zs) (hk : Keeps S w w') (hn : zs ≠ [] → ∀ k, v.ownBlock = some k → ¬ S k) : Sl w' v zs := by
  by_cases h0 : zs = []
  · subst h0
    obtain ⟨ao, cap, e, h1, h2, h3, h4, h5⟩ := h
    exact ⟨ao, cap, e, h1, h2, h3, h4, fun i hi => absurd hi (by simp)⟩
  · exact h.keeps hk (hn h0)
theorem Wr.foot {w : World} {p base k : Nat} {v : Value} {zs : List Nat} {why : Int} (h : Wr w p v zs why base) (gp : base ≤ p) (hk : Foot p v k) : base ≤ k ∧ k < w.heap.size := by
  rcases hk with rfl | hk
  · exact ⟨gp, h.lt⟩
  · exact h.2.1.lt k hk
theorem Rw.foot {w : World} {p base k : Nat} {v : Value} {zs : List Nat} {why : Int} (h : Rw w p v zs why base) (gp : base ≤ p) (hk : Foot p v k) : base ≤ k ∧ k < w.heap.size := by
  rcases hk with rfl | hk
  · exact ⟨gp, h.lt⟩
  · exact h.2.1.lt k hk
set_option maxRecDepth 100000 in
set_option maxHeartbeats 4000000 in
theorem lays_bytes {w : World} {p r base : Nat} {v u : Value} {zs : List Nat} {why : Int} {pos num : Int} {n : Nat} {pv : Value} {ps : List Nat} {s : ByteArray} (hw : Wr w p v zs why base) (hr : Rw w r u zs why base) (hs : Sp p v r u) (hsl : Sl w pv ps) (hn : n < 18446744073709551616) (hS : s.size ≤ 140737488355328) (ht : Tab w) (hl : zs.length ≤ 549755812888) (hb : base ≤ w.heap.size) (hps : ps.length ≤ 2147483647) (hP : ps ≠ [] → ∀ k, pv.ownBlock = some k → k < base) (gp : base ≤ p) (gr : base ≤ r) :
    Calls Tryd.prog 16 #[.pointer (some ⟨p, 0, none⟩), .pointer (some ⟨r, 0, none⟩), .agg #[.int .i64 5, .int .i64 pos, .int .u64 (n : Int), .int .i64 num, pv, .string s]] w (LaysPost w p r base v u (layW zs why ⟨5, pos, n, num, pv, ps, s⟩)) := by
  have HW0 := Lib.hid hw
  have HR0 := Lib.hid hr
  have HS0 := Lib.hid hs
  have hba : Below w.heap.size w (w.alloc (.cells #[.int .i64 5, .int .i64 pos, .int .u64 (n : Int), .int .i64 num, pv, .string s] 36)) := (Below.refl _ _).alloc (Nat.le_refl _) _
  have hsz : (w.alloc (.cells #[.int .i64 5, .int .i64 pos, .int .u64 (n : Int), .int .i64 num, pv, .string s] 36)).heap.size = w.heap.size + 1 := by simp
  have hbx : base ≤ (w.alloc (.cells #[.int .i64 5, .int .i64 pos, .int .u64 (n : Int), .int .i64 num, pv, .string s] 36)).heap.size := Nat.le_trans hb hba.size
  have HX : Hid ((w.alloc (.cells #[.int .i64 5, .int .i64 pos, .int .u64 (n : Int), .int .i64 num, pv, .string s] 36)).heap[w.heap.size]? = some (.cells #[.int .i64 5, .int .i64 pos, .int .u64 (n : Int), .int .i64 num, pv, .string s] 36 (0, 0))) := heap_alloc_new w _
  have HRo := Lib.hid (roomy_any (m := 165) (hsl.below hba) hps)
  rw [hsz] at HRo
  have HBase : Hid (base ≤ w.heap.size) := hb
  have HPs := Lib.hid hps
  have HLz := Lib.hid hl
  have HP2 : Hid (ps ≠ [] → ∀ k, pv.ownBlock = some k → k < base) := hP
  have HSl0 := Lib.hid hsl
  have HGp := Lib.hid gp
  have HGr := Lib.hid gr
  obtain ⟨pa, pc, hpv, hc1, hc2⟩ : ∃ a c, pv = .slice a ps.length c ∧ ps.length ≤ c ∧ c ≤ maxLen := by
    obtain ⟨a, c, e, h1, h2, _⟩ := hsl
    exact ⟨a, c, e, h1, h2⟩
  subst hpv
  generalize hq : ps.length = q at *
  have HQ := Lib.hid hq
  have HAl : Hid (Below w.heap.size w (w.alloc (.cells #[.int .i64 5, .int .i64 pos, .int .u64 (n : Int), .int .i64 num, .slice pa q pc, .string s] 36))) := hba
  have hq0 : (0 : Int) ≤ (q : Int) := by omega
  have hq1 : (q : Int) ≤ (q : Int) + 80 := by omega
  clear hw hr hs hsl ht hbx hba hS hn hl hq hP hps gp gr hb
  go_enter Tryd.func16, Tryd.ntmps16
  go_wp2_with fail
  refine HRo.out.mono ?_
  rintro e w1 ⟨rfl, hrow, hb1⟩
  have HRw1 := Lib.hid hrow
  have HB1 := Lib.hid hb1
  have HX1 : Hid (w1.heap[w.heap.size]? = some (.cells #[.int .i64 5, .int .i64 pos, .int .u64 (n : Int), .int .i64 num, .slice pa q pc, .string s] 36 (0, 0))) := (hb1.block w.heap.size (by omega)).trans HX.out
  have c4 : w1.cell? ⟨w.heap.size, 4, none⟩ = some (.slice pa q pc) := by rw [cell_of_row _ _ _ _ _ _ HX1.out]; rfl
  clear hrow hb1 HRo
  have HKA : Hid (Keeps (fun _ => False) w w1) := (Keeps.of_below (S := fun _ => False) HAl.out).trans (Keeps.of_below (S := fun _ => False) (by rw [hsz]; exact HB1.out)) (fun _ _ e => e)
  have HSz1 : Hid (w.heap.size + 1 < w1.heap.size) := HRw1.out.lt
  have HW1 : Hid (Wr w1 p v zs why base) := HW0.out.keeps HKA.out id (fun _ _ => id)
  have HR1 : Hid (Rw w1 r u zs why base) := HR0.out.keeps HKA.out id (fun _ _ => id)
  have HSm : Hid (∀ z ∈ ps, z < 256) := HSl0.out.small
  have HF1 : Hid (Sl w1 (.slice (some ⟨w.heap.size + 1, 0, none⟩) q (q + 80)) ps) := by
    have h9 := HRw1.out.sl (roomed_small HSm.out (by decide)) 0 q (q + 80) (by rw [roomed_length, HQ.out]; omega) (by omega) (by have := HPs.out; unfold maxLen; omega)
    rw [List.drop_zero, ← HQ.out, roomed_take, HQ.out] at h9
    exact h9
  have HC := Lib.hid (wBytes_lay (pos := pos) (n := n) (num := num) (pv := .slice pa q pc) (s := s) HW1.out HF1.out (by rw [HQ.out]; have := HPs.out; omega) (by have := HLz.out; omega) (Nat.le_trans HBase.out HKA.out.size))
  have HSl1 : Hid (Sl w1 (.slice pa q pc) ps) := HSl0.out.keeps HKA.out (fun _ _ => id)
  go_wp2_with fail
  refine HC.out.mono ?_
  rintro e w2 ⟨rfl, h2⟩
  have HP1 := Lib.hid h2
  obtain ⟨v2, a1, a2, a3⟩ := h2
  have nf : ¬ Foot p v w.heap.size := fun h => by have := (HW0.out.foot HGp.out h).2; omega
  have ng : ¬ Foot p v (w.heap.size + 1) := fun h => by have := (HW0.out.foot HGp.out h).2; omega
  have HX2 : Hid (w2.heap[w.heap.size]? = some (.cells #[.int .i64 5, .int .i64 pos, .int .u64 (n : Int), .int .i64 num, .slice pa q pc, .string s] 36 (0, 0))) := (a2.block w.heap.size (by have := HSz1.out; omega) nf).trans HX1.out
  have HRw2 : Hid (Row w2 (w.heap.size + 1) (roomed ps 165)) := HRw1.out.keeps a2 ng
  have HSl2 : Hid (Sl w2 (.slice pa q pc) ps) := HSl1.out.keepsE a2 (fun hne k hk h => by have h1 := (HW0.out.foot HGp.out h).1; have h2 := HP2.out hne k hk; omega)
  have HR2 : Hid (Rw w2 r u zs why base) := HR1.out.keeps a2 (by
      rintro (e | e)
      · exact HS0.out.pr e.symm
      · exact HS0.out.vr e) (by
      rintro q hq (e | e)
      · exact HS0.out.up (by rw [hq, e])
      · exact HS0.out.vu q e hq)
  have HSz2 : Hid (w1.heap.size ≤ w2.heap.size) := a2.size
  have HD := Lib.hid (rBytes_lay (pos := pos) (n := n) (num := num) (pv := .slice pa q pc) (s := s) HR2.out HSl2.out (by rw [HQ.out]; have := HPs.out; omega) (by have := HLz.out; omega) (Nat.le_trans HBase.out (Nat.le_trans HKA.out.size a2.size)))
  have d4 : w2.cell? ⟨w.heap.size, 4, none⟩ = some (.slice pa q pc) := by rw [cell_of_row _ _ _ _ _ _ HX2.out]; rfl
  clear a1 a2 a3 c4 HC nf ng
  go_wp2_with fail
  refine HD.out.mono ?_
  rintro e w3 ⟨rfl, h3⟩
  have HL3 : Hid (LaysPost w1 p r base v u (layW zs why ⟨5, pos, n, num, .slice pa q pc, ps, s⟩) (.returned (.bool true)) w3) := RPost.joins HW1.out HR1.out HS0.out (Keeps.refl _ _) HP1.out h3 _ rfl
  obtain ⟨u3, b1, b2, b3⟩ := h3
  have nf : ¬ Foot r u w.heap.size := fun h => by have := (HR0.out.foot HGr.out h).2; omega
  have ng : ¬ Foot r u (w.heap.size + 1) := fun h => by have := (HR0.out.foot HGr.out h).2; omega
  have HX3 : Hid (w3.heap[w.heap.size]? = some (.cells #[.int .i64 5, .int .i64 pos, .int .u64 (n : Int), .int .i64 num, .slice pa q pc, .string s] 36 (0, 0))) := (b2.block w.heap.size (by have := HSz1.out; have := HSz2.out; omega) nf).trans HX2.out
  have HRw3 : Hid (Row w3 (w.heap.size + 1) (roomed ps 165)) := HRw2.out.keeps b2 ng
  have HSl3 : Hid (Sl w3 (.slice pa q pc) ps) := HSl2.out.keepsE b2 (fun hne k hk h => by have h1 := (HR0.out.foot HGr.out h).1; have h2 := HP2.out hne k hk; omega)
  have HF3 : Hid (Sl w3 (.slice (some ⟨w.heap.size + 1, 0, none⟩) (q + 80) (q + 80)) (roomed ps 165)) := by
    have h9 := HRw3.out.sl (roomed_small HSm.out (by decide)) 0 (q + 80) (q + 80) (by rw [roomed_length, HQ.out]; omega) (by omega) (by have := HPs.out; unfold maxLen; omega)
    rw [List.drop_zero, List.take_of_length_le (by rw [roomed_length, HQ.out]; omega)] at h9
    exact h9
  have HI := Lib.hid (intact_any (m := 165) HF3.out HSl3.out)
  have f4 : w3.cell? ⟨w.heap.size, 4, none⟩ = some (.slice pa q pc) := by rw [cell_of_row _ _ _ _ _ _ HX3.out]; rfl
  clear b1 b2 b3 d4 HD nf ng HP1 HX1 HX2 HRw1 HRw2 HSl1 HSl2
  go_wp2_with fail
  refine HI.out.mono ?_
  rintro e w4 ⟨rfl, h4⟩
  have HK4 : Hid (Keeps (fun k => k = w.heap.size + 1) w3 w4) := Keeps.of_below h4
  have HRw4 : Hid (∃ Lr, Lr.length = q + 80 ∧ Row w4 (w.heap.size + 1) Lr) := ⟨_, by rw [roomed_length, HQ.out], HRw3.out.below h4⟩
  have HFin : Hid (∀ w', Keeps (fun k => k = w.heap.size + 1) w3 w' → LaysPost w p r base v u (layW zs why ⟨5, pos, n, num, .slice pa q pc, ps, s⟩) (.returned (.bool true)) w') := fun w' k => LaysPost.after HW0.out HR0.out HKA.out (by omega) HSz1.out HL3.out k rfl
  have hq2 : q ≤ 2147483647 := HPs.out
  clear h4 HI f4 HX3 HF3 HSl3 HL3 HRw3
  go_wp2_with fail
  go_loopw [9] (fun iv wr => ∃ i : Nat, i ≤ q + 80 ∧ iv = .int .i64 (i : Int) ∧ Hid (Keeps (fun k => k = w.heap.size + 1) w3 wr) ∧ Hid (∃ Lr, Lr.length = q + 80 ∧ Row wr (w.heap.size + 1) Lr)) (fun iv _ => q + 80 - (intOf iv).toNat)
  case atStart => exact ⟨0, by omega, rfl, HK4, HRw4⟩
  case round =>
    obtain ⟨i, hi, rfl, HKr, HRr⟩ := hrel
    by_cases hin : i < q + 80
    · obtain ⟨Lr, hL, hrow⟩ := HRr.out
      have ji : (i : Int) < (q : Int) + 80 := by omega
      have jw : IntKind.i64.wrap ((i : Int) + 1) = ((i + 1 : Nat) : Int) := by rw [IntKind.wrap_i64]; omega
      have ce := hrow.cell i (by omega)
      have th := hrow.thawed i
      have HK5 : Hid (Keeps (fun k => k = w.heap.size + 1) w3 (wr.setCell ⟨w.heap.size + 1, i, none⟩ (.int .u8 166))) := HKr.out.trans (Keeps.setCell wr (w.heap.size + 1) i _) (fun _ _ e => e)
      have HR5 : Hid (∃ Lr, Lr.length = q + 80 ∧ Row (wr.setCell ⟨w.heap.size + 1, i, none⟩ (.int .u8 166)) (w.heap.size + 1) Lr) := ⟨Lr.set i 166, by rw [List.length_set, hL], hrow.set i 166⟩
      clear hrow hL HKr HRr
      go_wp2_with fail
      go_roundw
      case rel => exact ⟨i + 1, by omega, rfl, HK5, HR5⟩
      case measure => simp [intOf]; omega
    · have ji : ¬ (i : Int) < (q : Int) + 80 := by omega
      have HFn := Lib.hid (HFin.out _ HKr.out)
      go_wp2_with fail
      go_ret
      exact HFn.out
end Go.Proofs.YtceljnkbkpgdjaaDoor
