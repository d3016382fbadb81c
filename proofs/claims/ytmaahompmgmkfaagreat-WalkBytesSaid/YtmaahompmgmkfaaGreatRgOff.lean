/- The document's own machine (bulkheadref3): Where, Off. Own work. -/
import Derived.Test.YtmaahompmgmkfaaGreatRgAll
import Derived.Test.YtmaahompmgmkfaaGreatBOff
import Derived.Deep.QuietTactic
import Derived.BigQuiet
import Derived.RegionTactic
import Derived.Lib.Hide
namespace Go.Proofs.YtmaahompmgmkfaaGreat
open Go.RowKit Go.Maps Go.Proofs.YtmaahompmgmkfaaGreat.Sp
/-- a machine of the document's own in its block -/
def RBox (w : World) (m : Nat) (vr vd vp : Value) (L S X : Nat) : Prop := w.heap[m]? = some (.cells #[vr, vd, vp, .int .i64 (L : Int), .int .i64 (S : Int), .int .i64 (X : Int)] 92 (0, 0))
theorem RBox.cells {w : World} {m : Nat} {vr vd vp : Value} {L S X : Nat} (h : RBox w m vr vd vp L S X) : w.cell? ⟨m, 0, none⟩ = some vr ∧ w.cell? ⟨m, 1, none⟩ = some vd ∧ w.cell? ⟨m, 2, none⟩ = some vp ∧ w.cell? ⟨m, 3, none⟩ = some (.int .i64 (L : Int)) ∧ w.cell? ⟨m, 4, none⟩ = some (.int .i64 (S : Int)) ∧ w.cell? ⟨m, 5, none⟩ = some (.int .i64 (X : Int)) := by
  refine ⟨?_, ?_, ?_, ?_, ?_, ?_⟩ <;> rw [cell_of_row w m _ _ _ _ h] <;> rfl
theorem RBox.thawed {w : World} {m : Nat} {vr vd vp : Value} {L S X : Nat} (h : RBox w m vr vd vp L S X) (i : Nat) : w.frozen? ⟨m, i, none⟩ = false := by simp [World.frozen?, show w.heap[m]? = _ from h]
theorem RBox.lt {w : World} {m : Nat} {vr vd vp : Value} {L S X : Nat} (h : RBox w m vr vd vp L S X) : m < w.heap.size := (Array.getElem?_eq_some_iff.1 h).1
theorem RBox.below {w w' : World} {m : Nat} {vr vd vp : Value} {L S X : Nat} (h : RBox w m vr vd vp L S X) (hb : Below w.heap.size w w') : RBox w' m vr vd vp L S X := (hb.block m h.lt).trans h
theorem RBox.keeps {Z : Nat → Prop} {w w' : World} {m : Nat} {vr vd vp : Value} {L S X : Nat} (h : RBox w m vr vd vp L S X) (hk : Keeps Z w w') (hn : ¬ Z m) : RBox w' m vr vd vp L S X := (hk.block m h.lt hn).trans h
/-- is the address in the range? -/
abbrev inR (a : Int) (x : Sp) : Prop := x.1 ≤ a ∧ a < x.1 + x.2
theorem OffR.unique {rs : List Sp} {a n : Nat} {x y : Int} {b c : Bool} (h : OffR rs a n x b) (k : OffR rs a n y c) : x = y ∧ b = c := by
  cases b <;> cases c
  · exact ⟨(h.2 rfl).1.trans (k.2 rfl).1.symm, rfl⟩
  · obtain ⟨i, hi, _, _, hn, _⟩ := k.1 rfl
    exact absurd ((h.2 rfl).2 i hi) hn
  · obtain ⟨i, hi, _, _, hn, _⟩ := h.1 rfl
    exact absurd ((k.2 rfl).2 i hi) hn
  · obtain ⟨i, hi, e1, _, hn, ha⟩ := h.1 rfl
    obtain ⟨j, hj, e2, _, hm, hb⟩ := k.1 rfl
    refine ⟨?_, rfl⟩
    rcases Nat.lt_trichotomy i j with h1 | h1 | h1
    · exact absurd (hb i h1) hn
    · rw [e1, e2, h1]
    · exact absurd (ha j h1) hm
/-- how Off's inner loop stands: how many bytes of one ground there are from an address on -/
def StepR (L : List Sp) (a : Int) (k : Nat) (step : Int) : Prop :=
  (step = 0 ∧ ∀ x ∈ L.take k, ¬ inR a x) ∨ (0 < step ∧ step ≤ 4294967296 ∧ a ≤ 4294967296 ∧ ∃ x ∈ L, x.1 ≤ a ∧ a + step = x.1 + x.2)
theorem StepR.on {L : List Sp} {a step : Int} {k : Nat} (h : StepR L a k step) (h0 : step ≠ 0) (j : Int) (h1 : 0 ≤ j) (h2 : j < step) : On L (a + j) := by
  rcases h with ⟨h, _⟩ | ⟨_, _, _, x, hx, h3, h4⟩
  · exact absurd h h0
  · exact ⟨x, hx, by omega, by omega⟩
/-- what Off answers -/
def OffE (LL : List Sp) (a n : Nat) (e : Ending) : Prop := ∃ x b, e = .returned (.tuple #[.int .u64 x, .bool b]) ∧ OffR LL a n x b
set_option maxRecDepth 100000 in
set_option maxHeartbeats 8000000 in
theorem roff_any {w : World} {m : Nat} {vr vd vp : Value} {rs ds : List Sp} {L S X a n : Nat} (h : RBox w m vr vd vp L S X) (hr : U64.SV w vr rs) (hd : U64.SV w vd ds) (hs : Sane (rs ++ ds)) (hl : rs.length + ds.length ≤ 64) (ha : a ≤ 18446744073709551615) (hn : n ≤ 9223372036854775807) :
    Calls Tryz.prog 59 #[.pointer (some ⟨m, 0, none⟩), .int .u64 (a : Int), .int .i64 (n : Int)] w fun e w' => OffE (rs ++ ds) a n e ∧ Below w.heap.size w w' := by
  have HAl : Hid (Calls Tryz.prog 14 #[.agg #[vr, vd]] w fun e w' => ∃ a n c, e = .returned (.slice a n c) ∧ Hid (Below w.heap.size w w') ∧ Hid (U64.SV w' (.slice a n c) (rs ++ ds)) ∧ Hid (∀ j, (Value.slice a n c).ownBlock = some j → w.heap.size ≤ j)) := all_any hr hd (by omega)
  have HS : Hid (Sane (rs ++ ds)) := hs
  obtain ⟨c0, c1, _, _, _, _⟩ := h.cells
  have hl2 : (rs ++ ds).length ≤ 64 := by rw [List.length_append]; exact hl
  generalize rs ++ ds = LL at *
  clear h hr hd hs hl
  go_enter Tryz.func59, Tryz.ntmps59
  go_wp2_with fail
  refine HAl.out.mono ?_
  rintro e w1 ⟨al, nl, cl, rfl, HB1, HS1, _⟩
  obtain ⟨al', cl', ev, hcl, hml, _⟩ := id HS1.out
  simp only [Value.slice.injEq] at ev
  obtain ⟨rfl, hnl, rfl⟩ := ev
  have HN : Hid (nl = LL.length) := hnl
  have hn40 : nl ≤ 64 := by rw [hnl]; exact hl2
  have hcl' : nl ≤ cl := by rw [hnl]; exact hcl
  unfold maxLen at hml
  clear hnl hcl HAl c0 c1 hl2
  go_wp2_with fail
  go_loopw [1, 2] (fun av nv wr => ∃ i q : Nat, ∃ ai ni : Int, i + q = n ∧ ai = (a : Int) + i ∧ ni = (q : Int) ∧ av = .int .u64 ai ∧ nv = .int .i64 ni ∧ 0 ≤ ai ∧ ai ≤ 18446744073709551615 ∧ Hid (∀ j : Nat, j < i → On LL ((a : Int) + j)) ∧ Hid (Below w1.heap.size w1 wr)) (fun _ nv _ => (intOf nv).toNat)
  case atStart => exact ⟨0, n, a, n, by omega, by omega, rfl, rfl, rfl, by omega, by omega, fun j hj => absurd hj (Nat.not_lt_zero _), Below.refl _ _⟩
  case round =>
    obtain ⟨i, q, ai, ni, hiq, hai, hni, rfl, rfl, ha0, ha1, HO, HB⟩ := hrel
    obtain ⟨wA, hwA⟩ : ∃ wA, wA = wr := ⟨_, rfl⟩
    subst hwA
    have HBe : Hid (Below w.heap.size w wA) := HB1.out.trans (HB.out.mono HB1.out.size)
    have HAi : Hid (ai = (a : Int) + i) := hai
    have HNi : Hid (ni = (q : Int)) := hni
    have hn0 : 0 ≤ ni := by omega
    have hn1 : ni ≤ 9223372036854775807 := by omega
    clear hai hni
    by_cases hq : 0 < ni
    · go_wp2_with fail
      go_loopw [10, 9] (fun kv sv wi => ∃ k : Nat, ∃ step : Int, k ≤ nl ∧ kv = .int .i64 (k : Int) ∧ sv = .int .u64 step ∧ 0 ≤ step ∧ step ≤ 4294967296 ∧ Hid (StepR LL ai k step) ∧ Hid (Below wA.heap.size wA wi)) (fun kv _ _ => nl - (intOf kv).toNat)
      case atStart => exact ⟨0, 0, Nat.zero_le _, rfl, rfl, by omega, by omega, .inl ⟨rfl, fun x hx => by simp at hx⟩, Below.refl _ _⟩
      case round =>
        obtain ⟨k, step, hk, rfl, rfl, st0, st1, HSt, HBi⟩ := hrel
        by_cases hlt : k < nl
        · have hkL : k < LL.length := by rw [← HN.out]; exact hlt
          have hsan := HS.out LL[k] (List.getElem_mem _)
          have HTk : Hid (LL.take (k + 1) = LL.take k ++ [LL[k]]) := List.take_succ_eq_append_getElem hkL
          have HMem : Hid (LL[k] ∈ LL) := List.getElem_mem _
          obtain ⟨_, _, e, _, _, _, _, h5⟩ := (HS1.out.below HB.out (Nat.le_refl _)).below HBi.out (Nat.le_refl _)
          simp only [Value.slice.injEq] at e
          obtain ⟨rfl, hzz, rfl⟩ := e
          clear hzz
          obtain ⟨g, off, rfl, d0, d1⟩ := h5 k hkL
          clear h5
          generalize LL[k] = xx at *
          obtain ⟨b, s⟩ := xx
          simp only at d0 d1 hsan
          obtain ⟨b0, b1, b2⟩ := hsan
          have jk : (k : Int) < (nl : Int) := by omega
          have HBn : Hid (Below wA.heap.size wA wr.drew) := HBi.out.drew
          by_cases q1 : b ≤ ai
          · have q1d : decide (b ≤ ai) = true := decide_eq_true q1
            by_cases q2 : ai - b < s
            · have q2d : decide (ai - b < s) = true := decide_eq_true q2
              have HSn : Hid (StepR LL ai (k + 1) (s - (ai - b))) := .inr ⟨by omega, by omega, by omega, (b, s), HMem.out, q1, by show ai + (s - (ai - b)) = b + s; omega⟩
              have u0 : 0 ≤ s - (ai - b) := by omega
              have u1 : s - (ai - b) ≤ 4294967296 := by omega
              clear HSt HTk HMem
              go_wp2_with fail
              go_quiet (fail)
              go_wp2_with fail
              go_quiet (fail)
              go_wp2_with fail
              go_roundw
              case rel => exact ⟨k + 1, s - (ai - b), by omega, by go_num, rfl, u0, u1, HSn, by first | exact U64.below_drewN' HBi.out _ | exact U64.below_drewN' (U64.below_drewN' HBi.out _) _⟩
              case measure => simp [intOf]; omega
            · have q2d : decide (ai - b < s) = false := decide_eq_false q2
              have HSn : Hid (StepR LL ai (k + 1) step) := HSt.out.imp (fun ⟨h1, h2⟩ => ⟨h1, fun x hx => by
                rw [HTk.out] at hx
                rcases List.mem_append.1 hx with hx | hx
                · exact h2 x hx
                · rw [List.mem_singleton.1 hx]; unfold inR; simp only; omega⟩) id
              clear HSt HTk HMem
              go_wp2_with fail
              go_quiet (fail)
              go_wp2_with fail
              go_roundw
              case rel => exact ⟨k + 1, step, by omega, by go_num, rfl, st0, st1, HSn, by first | exact U64.below_drewN' HBi.out _ | exact U64.below_drewN' (U64.below_drewN' HBi.out _) _⟩
              case measure => simp [intOf]; omega
          · have q1d : decide (b ≤ ai) = false := decide_eq_false q1
            have HSn : Hid (StepR LL ai (k + 1) step) := HSt.out.imp (fun ⟨h1, h2⟩ => ⟨h1, fun x hx => by
                rw [HTk.out] at hx
                rcases List.mem_append.1 hx with hx | hx
                · exact h2 x hx
                · rw [List.mem_singleton.1 hx]; unfold inR; simp only; omega⟩) id
            clear HSt HTk HMem
            go_wp2_with fail
            go_quiet (fail)
            go_wp2_with fail
            go_roundw
            case rel => exact ⟨k + 1, step, by omega, by go_num, rfl, st0, st1, HSn, by first | exact U64.below_drewN' HBi.out _ | exact U64.below_drewN' (U64.below_drewN' HBi.out _) _⟩
            case measure => simp [intOf]; omega
        · obtain rfl : k = nl := by omega
          have HBf : Hid (Below w.heap.size w wr) := HBe.out.trans (HBi.out.mono HBe.out.size)
          have HBg : Hid (Below w1.heap.size w1 wr) := HB.out.trans (HBi.out.mono HB.out.size)
          by_cases s0 : step = 0
          · have HR : Hid (OffR LL a n ai true) := by
              refine ⟨fun _ => ⟨i, by have := HNi.out; omega, HAi.out, by have := HAi.out; omega, ?_, HO.out⟩, fun h => by cases h⟩
              rintro ⟨x, hx, h1, h2⟩
              rcases HSt.out with ⟨_, h3⟩ | ⟨h3, _⟩
              · refine h3 x (by rw [HN.out, List.take_length]; exact hx) ⟨?_, ?_⟩
                · have := HAi.out; omega
                · have := HAi.out; omega
              · omega
            subst s0
            clear HSt
            go_wp2_with fail
            go_ret2
            exact ⟨⟨ai, true, rfl, HR.out⟩, HBf.out⟩
          · have HOn := Lib.hid (HSt.out.on s0)
            have HAl : Hid (ai ≤ 4294967296) := by
              rcases HSt.out with ⟨h3, _⟩ | ⟨_, _, h3, _⟩
              · exact absurd h3 s0
              · exact h3
            by_cases hle : ni ≤ step
            · have HR : Hid (OffR LL a n 0 false) := by
                refine ⟨fun h => (by cases h), fun _ => ⟨rfl, fun j hj => ?_⟩⟩
                by_cases hji : j < i
                · exact HO.out j hji
                · have := HOn.out ((j : Int) - i) (by omega) (by have := HNi.out; omega)
                  rw [HAi.out] at this
                  rw [show (a : Int) + j = (a : Int) + i + ((j : Int) - i) by omega]
                  exact this
              clear HSt HAl
              go_wp2_with fail
              go_ret2
              exact ⟨⟨0, false, rfl, HR.out⟩, HBf.out⟩
            · have hal := HAl.out
              have HR : Hid (∀ j : Nat, j < i + step.toNat → On LL ((a : Int) + j)) := fun j hj => by
                by_cases hji : j < i
                · exact HO.out j hji
                · have := HOn.out ((j : Int) - i) (by omega) (by omega)
                  rw [HAi.out] at this
                  rw [show (a : Int) + j = (a : Int) + i + ((j : Int) - i) by omega]
                  exact this
              clear HSt HAl HOn
              go_wp2_with fail
              go_roundw
              case rel => exact ⟨i + step.toNat, q - step.toNat, ai + step, ni - step, by have := HNi.out; omega, by have := HAi.out; omega, by have := HNi.out; omega, rfl, rfl, by omega, by omega, HR, HBg⟩
              case measure => simp [intOf]; omega
    · have HR : Hid (OffR LL a n 0 false) := ⟨fun h => (by cases h), fun _ => ⟨rfl, fun j hj => HO.out j (by have := HNi.out; omega)⟩⟩
      go_wp2_with fail
      go_ret2
      exact ⟨⟨0, false, rfl, HR.out⟩, HBe.out⟩
end Go.Proofs.YtmaahompmgmkfaaGreat
