/- The document's own Reader in memory (bulkheadref1.Reader): take, Number. Own work. -/
import Derived.Test.YtceljnkbkpgdjaaDoorLyByt
import Derived.Deep.RegionHeld3
namespace Go.Proofs.YtceljnkbkpgdjaaDoor
open Go.RowKit
set_option linter.unusedVariables false
/-- the document's own Reader in block p, over the bytes zs at v -/
def Rr (w : World) (p : Nat) (v : Value) (zs : List Nat) (pos : Nat) (why : Int) : Prop :=
  w.heap[p]? = some (.cells #[v, .int .i64 (pos : Int), .int .i64 why] 70 (0, 0)) ∧ Sl w v zs ∧ (zs ≠ [] → v.ownBlock ≠ some p) ∧ pos ≤ zs.length ∧ zs.length ≤ 549755813888
section
variable {w w' : World} {p : Nat} {v : Value} {zs : List Nat} {pos : Nat} {why : Int}
theorem Rr.lt (h : Rr w p v zs pos why) : p < w.heap.size := (Array.getElem?_eq_some_iff.1 h.1).1
theorem Rr.cell0 (h : Rr w p v zs pos why) : w.cell? ⟨p, 0, none⟩ = some v := by rw [cell_of_row w p 0 _ _ _ h.1]; rfl
theorem Rr.cell1 (h : Rr w p v zs pos why) : w.cell? ⟨p, 1, none⟩ = some (.int .i64 (pos : Int)) := by rw [cell_of_row w p 1 _ _ _ h.1]; rfl
theorem Rr.cell2 (h : Rr w p v zs pos why) : w.cell? ⟨p, 2, none⟩ = some (.int .i64 why) := by rw [cell_of_row w p 2 _ _ _ h.1]; rfl
theorem Rr.thawed (h : Rr w p v zs pos why) (i : Nat) : w.frozen? ⟨p, i, none⟩ = false := by simp [World.frozen?, h.1]
theorem Rr.keeps {S : Nat → Prop} (h : Rr w p v zs pos why) (hk : Keeps S w w') (hp : ¬ S p) (hg : zs ≠ [] → ∀ k, v.ownBlock = some k → ¬ S k) : Rr w' p v zs pos why :=
  ⟨(hk.block p h.lt hp).trans h.1, h.2.1.keepsE hk hg, h.2.2⟩
theorem Rr.below (h : Rr w p v zs pos why) (hb : Below w.heap.size w w') : Rr w' p v zs pos why := h.keeps (S := fun _ => False) (Keeps.of_below hb) id (fun _ _ _ => id)
theorem Rr.moved (h : Rr w p v zs pos why) (n : Nat) (hn : n ≤ zs.length) : Rr (w.setCell ⟨p, 1, none⟩ (.int .i64 (n : Int))) p v zs n why := by
  refine ⟨?_, h.2.1.keepsE (Keeps.setCell w p 1 _) (fun hz k hk e => h.2.2.1 hz (by rw [hk, e])), h.2.2.1, hn, h.2.2.2.2⟩
  simp only [World.setCell, Array.getElem?_modify]
  rw [if_pos trivial, h.1]
  simp
theorem Rr.refuse (h : Rr w p v zs pos why) (e : Int) : Rr (w.setCell ⟨p, 2, none⟩ (.int .i64 e)) p v zs pos e := by
  refine ⟨?_, h.2.1.keepsE (Keeps.setCell w p 2 _) (fun hz k hk e => h.2.2.1 hz (by rw [hk, e])), h.2.2⟩
  simp only [World.setCell, Array.getElem?_modify]
  rw [if_pos trivial, h.1]
  simp
end
set_option maxRecDepth 100000 in
set_option maxHeartbeats 2000000 in
theorem rtake_not {w : World} {p : Nat} {v : Value} {zs : List Nat} {pos : Nat} {why n : Int} (h : Rr w p v zs pos why) (hw : why ≠ 0) :
    Calls Tryd.prog 72 #[.pointer (some ⟨p, 0, none⟩), .int .i64 n] w fun e w' => e = .returned (.slice none 0 0) ∧ Below w.heap.size w w' := by
  have c0 := h.cell0
  have c1 := h.cell1
  have c2 := h.cell2
  have hb : (why == 0) = false := by simpa using hw
  have hb2 : (why != 0) = true := by simpa using hw
  have HB : Hid (Below w.heap.size w w.drew) := (Below.refl _ _).drew
  clear h
  go_enter Tryd.func72, Tryd.ntmps72
  go_wp2_with fail
  go_region
  go_wp2_with fail
  go_ret
  exact ⟨rfl, HB.out⟩
set_option maxRecDepth 100000 in
set_option maxHeartbeats 2000000 in
theorem rtake_no {w : World} {p : Nat} {v : Value} {zs : List Nat} {pos n : Nat} (h : Rr w p v zs pos 0) (hl : zs.length < pos + n) :
    Calls Tryd.prog 72 #[.pointer (some ⟨p, 0, none⟩), .int .i64 (n : Int)] w fun e w' => e = .returned (.slice none 0 0) ∧ Rr w' p v zs pos 10 ∧ Keeps (fun k => k = p) w w' := by
  have c0 := h.cell0
  have c1 := h.cell1
  have c2 := h.cell2
  have t2 := h.thawed 2
  have HF : Hid (Rr (w.drew.setCell ⟨p, 2, none⟩ (.int .i64 10)) p v zs pos 10 ∧ Keeps (fun k => k = p) w (w.drew.setCell ⟨p, 2, none⟩ (.int .i64 10))) := ⟨(show Rr w.drew p v zs pos 0 from h).refuse 10, ((Keeps.refl _ _).drew).trans (Keeps.setCell w.drew p 2 _) (fun _ _ e => e)⟩
  have hp := h.2.2.2.1
  have hz := h.2.2.2.2
  obtain ⟨ao, cap, rfl, k1, k2, _⟩ := h.2.1
  have jw : IntKind.i64.wrap ((zs.length : Int) - (pos : Int)) = ((zs.length - pos : Nat) : Int) := by rw [IntKind.wrap_i64]; omega
  have jd : decide (((zs.length - pos : Nat) : Int) < (n : Int)) = true := decide_eq_true (by omega)
  have jd2 : ((zs.length - pos : Nat) : Int) < (n : Int) := by omega
  clear h
  go_enter Tryd.func72, Tryd.ntmps72
  go_wp2_with fail
  go_region
  go_wp2_with fail
  go_ret
  exact ⟨rfl, HF.out⟩
set_option maxRecDepth 100000 in
set_option maxHeartbeats 2000000 in
theorem rtake_yes {w : World} {p : Nat} {v : Value} {zs : List Nat} {pos n : Nat} (h : Rr w p v zs pos 0) (hl : pos + n ≤ zs.length) :
    Calls Tryd.prog 72 #[.pointer (some ⟨p, 0, none⟩), .int .i64 (n : Int)] w fun e w' => ∃ u, e = .returned u ∧ Sl w' u ((zs.drop pos).take n) ∧ Rr w' p v zs (pos + n) 0 ∧ Keeps (fun k => k = p) w w' := by
  have c0 := h.cell0
  have c1 := h.cell1
  have c2 := h.cell2
  have t1 := h.thawed 1
  have HR := Lib.hid h
  have hz := h.2.2.2.2
  have hsl := h.2.1
  obtain ⟨ao, cap, rfl, k1, k2, _⟩ := id hsl
  unfold maxLen at k2
  have jw : IntKind.i64.wrap ((zs.length : Int) - (pos : Int)) = ((zs.length - pos : Nat) : Int) := by rw [IntKind.wrap_i64]; omega
  have jd : decide (((zs.length - pos : Nat) : Int) < (n : Int)) = false := decide_eq_false (by omega)
  have jd2 : ¬ ((zs.length - pos : Nat) : Int) < (n : Int) := by omega
  obtain ⟨q, hq⟩ : ∃ q, pos + n = q := ⟨_, rfl⟩
  have ja : IntKind.i64.wrap ((pos : Int) + (n : Int)) = (q : Int) := by rw [IntKind.wrap_i64]; omega
  have js : IntKind.i64.wrap ((q : Int) - (n : Int)) = (pos : Int) := by rw [IntKind.wrap_i64]; omega
  have hpq : pos ≤ q := by omega
  have hqc : q ≤ cap := by omega
  have HM : Hid (Rr (w.setCell ⟨p, 1, none⟩ (.int .i64 (q : Int))).drew.drew p (.slice ao zs.length cap) zs q 0) := HR.out.moved q (by omega)
  have HK : Hid (Keeps (fun k => k = p) w (w.setCell ⟨p, 1, none⟩ (.int .i64 (q : Int))).drew.drew) := (Keeps.setCell w p 1 _).drew.drew
  have hle : pos ≤ zs.length := by omega
  have hqn : q - pos = n := by omega
  have HQn := Lib.hid hqn
  have d0 := HM.out.cell0
  have d1 := HM.out.cell1
  have HQ := Lib.hid hq
  have hln : n ≤ zs.length - pos := by omega
  clear h hq hl hqn
  by_cases hc : cap = pos
  · have HSl : Hid (Sl (w.setCell ⟨p, 1, none⟩ (.int .i64 (q : Int))).drew.drew (.slice ao 0 0) ((zs.drop pos).take n)) := by
      have h0 : (zs.drop pos).take n = [] := by
        rw [List.drop_eq_nil_of_le (by omega)]
        simp
      rw [h0]
      obtain ⟨_, _, e, _, _, _, h4, _⟩ := hsl
      simp only [Value.slice.injEq] at e
      exact ⟨ao, 0, rfl, Nat.le_refl _, Nat.zero_le _, by simp, fun e' => rfl, fun i hi => absurd hi (by simp)⟩
    clear hsl
    subst hc
    go_enter Tryd.func72, Tryd.ntmps72
    go_wp2_with fail
    go_region
    go_wp2_with fail
    go_region_held3 (fun w' => w'.cell? ⟨p, 0, none⟩ = some (.slice ao zs.length cap) ∧ w'.cell? ⟨p, 1, none⟩ = some (.int .i64 (q : Int))) (exact ⟨d0, d1⟩) (fail)
    go_wp2_with fail
    go_ret
    exact ⟨_, rfl, HSl.out, by rw [HQ.out]; exact HM.out, HK.out⟩
  · have HSl : Hid (Sl (w.setCell ⟨p, 1, none⟩ (.int .i64 (q : Int))).drew.drew (.slice (Option.map (fun x => x.add pos) ao) (q - pos) (cap - pos)) ((zs.drop pos).take n)) := by
      have h1 := HM.out.2.1.cut hle
      rw [HQn.out]
      exact h1.head n (by rw [List.length_drop]; exact hln)
    clear hsl
    go_enter Tryd.func72, Tryd.ntmps72
    go_wp2_with fail
    go_region
    go_wp2_with fail
    go_region_held3 (fun w' => w'.cell? ⟨p, 0, none⟩ = some (.slice ao zs.length cap) ∧ w'.cell? ⟨p, 1, none⟩ = some (.int .i64 (q : Int))) (exact ⟨d0, d1⟩) (fail)
    go_wp2_with fail
    go_ret
    exact ⟨_, rfl, HSl.out, by rw [HQ.out]; exact HM.out, HK.out⟩
end Go.Proofs.YtceljnkbkpgdjaaDoor
