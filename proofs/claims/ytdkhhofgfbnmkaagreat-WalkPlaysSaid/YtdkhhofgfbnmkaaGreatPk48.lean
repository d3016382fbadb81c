import Derived.Test.YtdkhhofgfbnmkaaGreatPk47
import Derived.Test.YtdkhhofgfbnmkaaGreatPk46
import Derived.Test.YtdkhhofgfbnmkaaGreatPk19
import Derived.Sort.QuietIn
/- WalkPlays: leaves: the calls that it makes. Own work. -/
namespace Go.Proofs.YtdkhhofgfbnmkaaGreat
open Go.RowKit Go.Maps Go.Shelf Go.Proofs.YtdkhhofgfbnmkaaGreat.Sp Wk Lv
attribute [local go_sem] Oper.semAt_some
set_option maxRecDepth 100000 in
set_option maxHeartbeats 4000000 in
theorem within_lv {n : Int} (w : World) :
    Calls Tryz.prog 51 #[.int .i64 n, .int .i64 (-1), .int .i64 2000] w fun e w' => ∃ r : Int, e = .returned (.int .i64 r) ∧ -1 ≤ r ∧ r ≤ 2000 ∧ w' = w := by
  obtain ⟨q, hq⟩ : ∃ q, q = n.tmod 2002 := ⟨_, rfl⟩
  have hq1 : -2002 < q ∧ q < 2002 := by
    have := Int.tmod_lt_of_pos n (b := 2002) (by omega)
    have := Int.lt_tmod_of_pos n (b := 2002) (by omega)
    omega
  go_enter Tryz.func51, Tryz.ntmps51
  go_wp2_with fail
  all_goals (go_ret; rw [← hq] at *)
  · exact ⟨_, rfl, by omega, by omega, rfl⟩
  · exact ⟨_, rfl, by omega, by omega, rfl⟩
/-- what the document's Leaves tells, of whatever number -/
noncomputable def WantF (LL : List Sp) (M : Nat → Nat) (root : Nat) (z : Int) : List T7 :=
  if z < 1 then [] else if root % 4096 = 0 then ((allS (lkL (fL LL M)) ydL ctL root { s := [], left := z.toNat, go := true }).s).map td else [(0, 0, 134217728, false, false, false, 42)]
set_option maxRecDepth 100000 in
set_option maxHeartbeats 2000000 in
theorem rleaves_no {pm : Value} {root : Nat} {z : Int} (hz : z < 1) (w : World) :
    Calls Tryz.prog 52 #[pm, .int .u64 (root : Int), .int .i64 z] w fun e w' => e = .returned (.tuple #[.slice none 0 0, .bool false]) ∧ Below w.heap.size w w' := by
  go_enter Tryz.func52, Tryz.ntmps52
  go_wp2_with fail
  go_ret2
  exact ⟨rfl, Below.refl _ _⟩
theorem rleaves_want {w0 w : World} {base v : Nat} {vr vd vp : Value} {ps : List (Int × Nat)} {M : Nat → Nat} {L S X : Nat} {rs ds : List Sp} {root : Nat} {z : Int} (h : RM w base v vr vd vp ps M L S X) (hb0 : Below w0.heap.size w0 w) (hv0 : w0.heap.size ≤ v) (hvs : v < w.heap.size) (hr : U64.SV w0 vr rs) (hd : U64.SV w0 vd ds) (hs : Sane (rs ++ ds)) (hll : rs.length + ds.length ≤ 64) (hX : X ≤ 4611686018427387904) (hz : z ≤ 2000) (hrt : root ≤ 18446744073709551615) :
    Calls Tryz.prog 52 #[.pointer (some ⟨v, 0, none⟩), .int .u64 (root : Int), .int .i64 z] w fun e w' => ∃ vt b, e = .returned (.tuple #[vt, .bool b]) ∧ WantAt w.heap.size w'.heap.size w' vt (WantF (rs ++ ds) M root z) ∧ RM w' base v vr vd vp ps M L S X ∧ Keeps (fun j => j = v) w w' := by
  by_cases h1 : z < 1
  · refine (rleaves_no h1 w).mono ?_
    rintro e w' ⟨rfl, hb⟩
    refine ⟨_, _, rfl, ?_, h.below hb, Keeps.of_below hb⟩
    rw [WantF, if_pos h1]
    exact ⟨none, 0, rfl, Nat.le_refl _, Nat.zero_le _, .inl rfl⟩
  · obtain ⟨most, rfl⟩ : ∃ k : Nat, z = (k : Int) := ⟨z.toNat, by omega⟩
    refine (rleaves_td (most := most) h hb0 hv0 hvs hr hd hs hll hX (by omega) (by omega) hrt).mono ?_
    rintro e w' ⟨vt, b, rfl, _, hbad, hgood, hm, hk⟩
    refine ⟨vt, b, rfl, ?_, hm, hk⟩
    rw [WantF, if_neg h1]
    by_cases hr4 : root % 4096 = 0
    · rw [if_pos hr4, Int.toNat_natCast]
      exact want_own (hgood hr4)
    · rw [if_neg hr4]
      obtain ⟨_, g, rfl, hg1, hg2⟩ := hbad hr4
      refine ⟨_, 1, rfl, Nat.le_refl _, by unfold maxLen; omega, .inr ⟨g, _, rfl, hg1, (Array.getElem?_eq_some_iff.1 hg2).1, hg2, fun j hj k hk => ?_⟩⟩
      obtain rfl : j = 0 := by simpa using hj
      match k, hk with
      | 0, _ => rfl
      | 1, _ => rfl
      | 2, _ => rfl
      | 3, _ => rfl
      | 4, _ => rfl
      | 5, _ => rfl
      | 6, _ => rfl
set_option maxRecDepth 100000 in
set_option maxHeartbeats 4000000 in
theorem leaves1_no {n l0 Bm Bo Br : Nat} {most : Int} {T : TypeId} {u : Value} {W : World} (hBm : W.cell? ⟨Bm, 0, none⟩ = some (.iface T u)) (hBo : W.cell? ⟨Bo, 0, none⟩ = some (.int .i64 most)) (h1 : most < 1) :
    CallsIn Fence.wide n Tryz.prog 78 #[.func (.yield l0) #[] #[], .pointer (some ⟨Bm, 0, none⟩), .pointer (some ⟨Bo, 0, none⟩), .pointer (some ⟨Br, 0, none⟩)] W fun e W' => (∃ v, e = .returned v) ∧ Below W.heap.size W W' := by
  have hbm : Bm < W.heap.size := World.block_lt_of_cell? W _ hBm
  have hbo : Bo < W.heap.size := World.block_lt_of_cell? W _ hBo
  refine callsIn_of_wp_marks Tryz.func78 rfl trivial ?_ rfl
  simp only [Tryz.ntmps78, List.size_toArray, List.length_cons, List.length_nil, Nat.reduceAdd, Nat.reduceSub, Array.replicate_succ, Array.replicate_zero, List.push_toArray, List.append_toArray, List.nil_append, List.cons_append]
  gi_wp2
  exact ⟨_, results_none rfl _ _ _, ⟨_, rfl⟩, (Below.refl _ W).alloc (Nat.le_refl _) _⟩
end Go.Proofs.YtdkhhofgfbnmkaaGreat
/- A region that only reads, within a round of a range over a function. Own work. -/
namespace Go.Proofs.YtdkhhofgfbnmkaaGreat
open Go.RowKit
theorem operIn_round {F : Fence} {n : Nat} {P : Program} {o : Oper} {a : Act} {w : World} {K : Act → World → Prop} {Q : Exit → Act → World → Prop} (l : Nat) (hro : F.round = none) (hd : ∀ c, o.op ≠ .defer c) (h : o.wpIn F n P a w K Q) : o.wpIn (F.inRound l) n P a w K Q := by
  unfold Oper.wpIn at h ⊢
  refine ⟨h.1, ?_⟩
  have h2 := h.2
  rw [hro, Oper.semAt_none] at h2
  rw [Oper.semAt_eq _ _ _ hd]
  generalize (execOp a.eval o).run P w = r at h2
  exact h2
theorem wpAnyIn_round {F : Fence} {n : Nat} {P : Program} {md : Region.Mode} {ops : Array Oper} {Q : Exit → Act → World → Prop} (l : Nat) (hro : F.round = none) (hd : ∀ (i : Nat) (o : Oper), ops[i]? = some o → ∀ c, o.op ≠ .defer c) : ∀ (fuel : Nat) (listed : Array Bool) (a : Act) (w : World), wpAnyIn F n P md ops Q fuel listed a w → wpAnyIn (F.inRound l) n P md ops Q fuel listed a w
  | 0, _, _, _, h => h
  | fuel + 1, listed, a, w, h => by
    refine ⟨h.1, fun i hi => ?_⟩
    have h1 := wpOpIn_mono (wpAnyIn_round l hro hd fuel (listed.setIfInBounds i true)) (h.2 i hi)
    unfold wpOpIn at h1 ⊢
    cases ho : ops[i]? with
    | none =>
      simp only [ho] at h1
      exact h1
    | some o =>
      simp only [ho] at h1
      by_cases hw : Region.wanted o (yielded ops a.tmps) = true
      · simp only [hw, if_true] at h1 ⊢
        exact operIn_round l hro (hd i o ho) h1
      · simp only [hw] at h1 ⊢
        exact h1
def noDefer (ls : List Oper) : Bool := ls.all fun o => match o.op with | .defer _ => false | _ => true
theorem noDefer_at {ls : List Oper} (h : noDefer ls = true) (i : Nat) (o : Oper) (ho : ls.toArray[i]? = some o) (c : Call) : o.op ≠ .defer c := by
  intro e
  have hm : o ∈ ls := by
    rw [List.getElem?_toArray] at ho
    exact List.mem_of_getElem? ho
  have := List.all_eq_true.1 h o hm
  rw [e] at this
  cases this
theorem region_quiet_round {F : Fence} {n : Nat} {P : Program} {id l : Nat} {Q : Exit → Act → World → Prop} {a : Act} {w : World} {ls : List Oper} (hro : F.round = none) (hm : P.follows .mixedOrders = true) (hB : Region.lexB .any ls.toArray = true) (hd : noDefer ls = true)
    (h : wpQuietIn F n P ls.toArray (fun w' => ∃ n, w' = w.drewN n) (fun a' => ∀ w', (∃ n, w' = w.drewN n) → Q .normal a' w') ls a) : (Code.region id ls.toArray true).wpIn (F.inRound l) n P Q a w := by
  simp only [Region.lexB, Bool.and_eq_true] at hB
  refine wpIn_region_any hm (wpAnyIn_round l hro (noDefer_at hd) _ _ _ _ (wpAnyIn_of_quiet (C := fun w' => ∃ n, w' = w.drewN n) (Q := fun a' => ∀ w', (∃ n, w' = w.drewN n) → Q .normal a' w') hro (fun _ w' hw' h => h w' hw') _ _ _ _ ⟨1, rfl⟩ ?_))
  have := wpAnyQIn_lex (F := F) (n := n) (C := fun w' => ∃ n, w' = w.drewN n) (md := .any) hB.1 ls 0 (Array.replicate ls.toArray.size false) a (by simp) (by simpa using hB.2) h
  simpa using this
end Go.Proofs.YtdkhhofgfbnmkaaGreat
