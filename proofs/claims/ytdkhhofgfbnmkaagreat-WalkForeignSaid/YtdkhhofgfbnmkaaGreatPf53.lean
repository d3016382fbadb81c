import Derived.Test.YtdkhhofgfbnmkaaGreatRows
import Derived.Test.YtdkhhofgfbnmkaaGreatPf27
import Derived.Test.YtdkhhofgfbnmkaaGreatPf52
import Derived.WalkKit
import Derived.ProofKit
import Derived.OpenShut
import Derived.ShutString
import Derived.ChangeOld
import Derived.Below
/- WalkForeign: its row, by the guide's shell. -/
namespace Go.Proofs.YtdkhhofgfbnmkaaGreat.walkForeign
open Go.ChangeShapes Go.WideShapes Go.ChangeAt Go.RowKit
open Go.ChangeMaps (open_string shut_string)
set_option linter.unusedVariables false

theorem own : ownKnob Tryz.prog.godebug = none := by kernel_rfl
theorem laidOut : laidOutB Tryz.prog = true := by kernel_rfl

set_option maxRecDepth 100000 in
theorem lifted (os : Os) (started : os.Started) (H : Type) (enc : TypeId × Value → H) :
    ReturnsInHanded {} Tryz.checked os 4 .any (Rows.walkForeignSpec.pre6 enc Tryz.prog Tryz.f4 Rows.walkForeignRow.domain false) (Rows.walkForeignSpec.post enc Tryz.prog Tryz.f4 false true false false) := by
  refine returnsInHanded_of_change_sized (C := Tryz.checked) own started (by kernel_rfl) Tryz.func4
    (ChangeSpec.witness6 (enc := enc) (C := Tryz.checked) false ⟨#[], #[.agg #[.slice none 0 0, .slice none 0 0], .slice none 0 0, .slice none 0 0], []⟩ 8 (by kernel_rfl) (by kernel_rfl) (by kernel_rfl) (by kernel_rfl)) ?_
  intro W base args ds gs before hval0 hW hcnd hsz _
  have hval : ∀ (j : Nat) t v, Tryz.f4.params[j]? = some t → args[j]? = some v → Value.okWide Tryz.prog W .any base t v := hval0
  have hW' := hW
  obtain ⟨p, q, hA0, hV, rfl, hfz, hnd⟩ := hW
  have hA : DataW.TrodAll enc Tryz.prog W 0 (fun _ => true) true Tryz.f4.params.toList args.toList ds p := hA0
  rw [Tryz.params4] at hA hval hsz
  obtain ⟨v0, vs0, d0, ds0, p0, q0, hargs, rfl, rfl, h0, r0⟩ := trodAll_cons hA
  obtain ⟨v1, vs1, d1, ds1, p1, q1, rfl, rfl, rfl, h1, r1⟩ := trodAll_cons r0
  obtain ⟨v2, vs2, d2, ds2, p2, q2, rfl, rfl, rfl, h2, r2⟩ := trodAll_cons r1
  obtain ⟨rfl, rfl, rfl⟩ := trodAll_nil r2
  obtain rfl : args = #[v0, v1, v2] := by cases args; simp_all
  obtain ⟨rfl, rfl⟩ := trodVars_none hV
  have k0 := h0
  have lt0 : ∀ x ∈ p0, x.block < W.heap.size := by obtain ⟨m, hm⟩ := k0; exact DataW.trod_lt m _ _ _ hm
  obtain ⟨cs, rfl, _, hrow⟩ : ∃ cs, v0 = .agg cs ∧ cs.size = Tryz.prog.cellsOf 24 ∧ Row.okWide Tryz.prog W .any base 24 cs := by
    have := hval 0 24 v0 rfl rfl
    simp only [Value.okWide, Tryz.underlying24] at this
    exact this
  obtain ⟨vr, vd, rs, dd, rfl, hr, hd, fr, fd⟩ : ∃ vr vd rs ds, cs = #[vr, vd] ∧ U64.SV W vr rs ∧ U64.SV W vd ds ∧ Sp.Fits 18446744073709551615 rs ∧ Sp.Fits 18446744073709551615 ds := by
    obtain ⟨fuel, hf⟩ := h0
    exact bus_opened hrow hf
  obtain ⟨a1, len1, cap1, rfl⟩ := okWide_slice Tryz.underlying25 (hval 1 25 v1 rfl rfl)
  have k1 := h1
  have lt1 : ∀ x ∈ p1, x.block < W.heap.size := by obtain ⟨m, hm⟩ := k1; exact DataW.trod_lt m _ _ _ hm
  obtain ⟨ws, hx, fx, hp⟩ : ∃ ws, U64.SV W (.slice a1 len1 cap1) ws ∧ Sp.Fits 18446744073709551615 ws ∧ ws.length ≤ 1152921504606846976 := by
    obtain ⟨fuel, hf⟩ := h1
    obtain ⟨v, xs, e, hx, fx, hlen⟩ := wds_opened (fun v e => by
      have hv := hval 1 25 (.slice a1 len1 cap1) rfl rfl
      simp [Value.cells] at e
      subst e
      refine ⟨.any, base, ?_⟩
      simp only [Value.okWide, Tryz.underlying25] at hv
      exact hv) hf
    simp [Value.cells] at e
    subst e
    refine ⟨xs, hx, fx, ?_⟩
    rcases hlen with h | ⟨el, sp, hd, h⟩
    · omega
    · simp only at hd
      have hw := sized_slice hsz (j := 1) (t := 25) (elems := el) (spare := sp) rfl (by rw [← hd]; rfl) Tryz.underlying25
      have hw : (el.length + sp.length) * Tryz.prog.bytesOf 44 ≤ reachBytes := hw
      rw [show Tryz.prog.bytesOf 44 = 16 from by kernel_rfl] at hw
      have e3 : reachBytes = 140737488351232 := rfl
      omega
  obtain ⟨a2, len2, cap2, rfl⟩ := okWide_slice Tryz.underlying26 (hval 2 26 v2 rfl rfl)
  have k2 := h2
  have lt2 : ∀ x ∈ p2, x.block < W.heap.size := by obtain ⟨m, hm⟩ := k2; exact DataW.trod_lt m _ _ _ hm
  obtain ⟨os, ho, fo, hlo⟩ : ∃ os, OpsAt W.heap.size W (.slice a2 len2 cap2) os ∧ (∀ o ∈ os, o.2.1 ≤ 18446744073709551615 ∧ o.2.2.1 ≤ 18446744073709551615 ∧ o.2.2.2.1 ≤ 18446744073709551615) ∧ os.length ≤ 600000000000000 := by
    obtain ⟨fuel, hf⟩ := h2
    obtain ⟨v, os, e, ho, fo, hlen⟩ := ops_opened (fun v e => by
      have hv := hval 2 26 (.slice a2 len2 cap2) rfl rfl
      simp [Value.cells] at e
      subst e
      refine ⟨.any, base, ?_⟩
      simp only [Value.okWide, Tryz.underlying26] at hv
      exact hv) hf
    simp [Value.cells] at e
    subst e
    refine ⟨os, ho, fo, ?_⟩
    rcases hlen with h | ⟨el, sp, hd, h⟩
    · omega
    · simp only at hd
      have hw := sized_slice hsz (j := 2) (t := 26) (elems := el) (spare := sp) rfl (by rw [← hd]; rfl) Tryz.underlying26
      have hw : (el.length + sp.length) * Tryz.prog.bytesOf 36 ≤ reachBytes := hw
      rw [show Tryz.prog.bytesOf 36 = 40 from by kernel_rfl] at hw
      have e3 : reachBytes = 140737488351232 := rfl
      omega
  clear hA0 hval0
  refine (foreign_walk hr hd fr fd hx fx hp ho fo hlo).mono fun e W' ⟨he, bel⟩ => ?_
  subst he
  exact ⟨_, rfl, _, _, _, [], _, [], hW', trodAll_mk1 (shut_bool Tryz.underlying4 _), (trodAll_cons_mk (Below.trod laidOut (by kernel_rfl) (of_decide_eq_true (by kernel_rfl)) k0 bel lt0) (trodAll_cons_mk (Below.trod laidOut (by kernel_rfl) (of_decide_eq_true (by kernel_rfl)) k1 bel lt1) (trodAll_cons_mk (Below.trod laidOut (by kernel_rfl) (of_decide_eq_true (by kernel_rfl)) k2 bel lt2) trodAll_mk0))), rfl, bel.frame _, fun h => by cases h⟩

theorem over : Rows.walkForeignRow.holds Tryz.pinned (OpenSpec.ofChange Rows.walkForeignSpec) :=
  OpenClaim.holds_of_wide 4 Tryz.f4 rfl rfl rfl rfl rfl rfl rfl ⟨rfl, rfl, rfl, rfl, rfl⟩ rfl rfl rfl rfl rfl (by kernel_rfl) Tryz.func4 (by kernel_rfl)
    (of_decide_eq_true (by kernel_rfl)) (by unfold Func.isWrapper; first | (rw [if_pos (by decide +kernel)]; kernel_rfl) | (rw [if_neg (by decide +kernel)]; exact ⟨rfl, rfl⟩))
    (fun os started H enc _ => lifted os started H enc)

theorem proved : Rows.WalkForeignSaid :=
  over
#print axioms proved
end Go.Proofs.YtdkhhofgfbnmkaaGreat.walkForeign
