import Derived.Test.YtfnikcjcgneboaaGreatPk33
import Derived.BigQuiet
/- The document's own look at an entry's bytes. Own work. -/
namespace Go.Proofs.YtfnikcjcgneboaaGreat
open Go.RowKit Go.Maps Go.Proofs.YtfnikcjcgneboaaGreat.Sp Wk
theorem Keeps.drewN {S : Nat → Prop} (w : World) (n : Nat) : Keeps S w (w.drewN n) := ⟨rfl, rfl, rfl, Nat.le_refl _, fun _ _ _ => rfl⟩
set_option maxRecDepth 100000 in
set_option maxHeartbeats 4000000 in
theorem rpk_any {w : World} {base v : Nat} {vr vd vp : Value} {ps : List (Int × Nat)} {M : Nat → Nat} {rs ds : List Sp} {L S X a : Nat} (h : RM w base v vr vd vp ps M L S X) (hr : U64.SV w vr rs) (hd : U64.SV w vd ds) (hs : Sane (rs ++ ds)) (hll : rs.length + ds.length ≤ 64) (ha : a ≤ 18446744073709551615) (hX : X ≤ 4611686018427387904) :
    Calls Tryz.prog 54 #[.pointer (some ⟨v, 0, none⟩), .int .u64 (a : Int)] w fun e w' => ∃ x b, OffR (rs ++ ds) a 8 x b ∧ e = .returned (.tuple #[.int .u64 (if b then 0 else (Pl.num 8 (rdTo M a 8 8) : Nat) : Int), .bool (!b)]) ∧ RM w' base v vr vd vp ps M L S X ∧ Keeps (fun j => j = v) w w' := by
  have HP : Hid (Calls Tryz.prog 87 #[.pointer (some ⟨v, 0, none⟩), .int .u64 (a : Int), .int .i64 ((8 : Nat) : Int)] w (RPkM w base v vr vd vp ps M (rs ++ ds) L S X a 8 (fun _ => 0))) := rpeek_at h (.inr (.inr (.inr rfl))) hr hd hs hll ha hX
  obtain ⟨_, _, _, _, _, c5⟩ := h.2.1.cells
  generalize rs ++ ds = LL at *
  clear h hr hd hs hll
  go_enter Tryz.func54, Tryz.ntmps54
  go_wp2_with fail
  refine HP.out.mono ?_
  rintro e w1 ⟨x, b, ho, rfl, hm1, hk1⟩
  have HOff := Lib.hid ho
  have HM1 := Lib.hid hm1
  have HK1 := Lib.hid hk1
  have hvl := hm1.2.1.lt
  obtain ⟨V, hV⟩ : ∃ V : Nat, (if b then 0 else (Pl.num 8 (rdTo M a 8 8) : Nat) : Int) = (V : Int) := by
    cases b
    · exact ⟨_, rfl⟩
    · exact ⟨0, rfl⟩
  have HV := Lib.hid hV
  rw [hV]
  clear ho hm1 hk1 HP hV c5
  unfold FaultV
  have c5 := fun Z => U64.cell_alloc' Z HM1.out.2.1.cells.2.2.2.2.2
  have f5 := fun Z : Obj => (HM1.out.2.1.below ((Below.refl _ _).alloc (Nat.le_refl _) Z)).thawed 5
  have hfin : ∀ (y : Obj) (W : World), Keeps (fun _ => False) ((w1.setCell ⟨v, 5, none⟩ (.int .i64 (X : Int))).alloc y) W → RM W base v vr vd vp ps M L S X ∧ Keeps (fun j => j = v) w W := fun y W hW => by
    have hk := Keeps.setCell w1 v 5 (.int .i64 (X : Int))
    have h1 : RM (w1.setCell ⟨v, 5, none⟩ (.int .i64 (X : Int))) base v vr vd vp ps M L S X := (HM1.out.box hk (by
      have h2 : w1.heap[v]? = _ := HM1.out.2.1
      simp [RBox, World.setCell, Array.getElem?_modify, h2])).1
    have hk2 := (Keeps.alloc (S := fun _ => False) (w1.setCell ⟨v, 5, none⟩ (.int .i64 (X : Int))) y).trans hW (fun _ _ e => e)
    exact ⟨h1.keeps hk2 (fun _ _ e => e), (HK1.out.trans hk (fun _ _ e => e)).trans hk2 (fun _ _ e => e.elim)⟩
  have HFin := Lib.hid hfin
  clear hfin
  cases b with
  | true =>
    simp only [if_true]
    go_wp2_with fail
    go_quiet (fail)
    go_wp2_with fail
    refine bodyPost_ret (v := .tuple #[.int .u64 (V : Int), .bool false]) (by simp [results, Tryz.results54, go_sem]) rfl ?_
    obtain ⟨r1, r2⟩ := HFin.out _ _ (Keeps.drewN (S := fun _ => False) _ nq)
    refine ⟨x, true, HOff.out, ?_, r1, r2⟩
    have := HV.out
    simp only [if_true] at this ⊢
    rw [← this]
    rfl
  | false =>
    simp only [Bool.false_eq_true, if_false]
    go_wp2_with fail
    go_quiet (fail)
    go_wp2_with fail
    refine bodyPost_ret (v := .tuple #[.int .u64 (V : Int), .bool true]) (by simp [results, Tryz.results54, go_sem]) rfl ?_
    obtain ⟨r1, r2⟩ := HFin.out _ _ (Keeps.drewN (S := fun _ => False) _ nq)
    refine ⟨x, false, HOff.out, ?_, r1, r2⟩
    have := HV.out
    simp only [Bool.false_eq_true, if_false] at this ⊢
    rw [← this]
    rfl
end Go.Proofs.YtfnikcjcgneboaaGreat
