/- pair, many. Own work. -/
import Derived.Test.YtabgmlnlooiddaaSpOfU64
import Derived.Test.YtabgmlnlooiddaaSpArg
import Derived.Deep.RegionHeld3
namespace Go.Proofs.Ytabgmlnlooiddaa.U64
open Go.RowKit Go.Shelf Go.Proofs.Ytabgmlnlooiddaa.Sp

theorem pair_any {a b : Int} (_ha : 0 ≤ a ∧ a ≤ 18446744073709551615) (_hb : 0 ≤ b ∧ b ≤ 18446744073709551615) (w : World) :
    Calls Try.prog 11 #[.int .u64 a, .int .u64 b] w fun e w' => e = .returned (.agg #[.int .u64 (a % (18446744073709551615 + 1)), .int .u64 (b % (18446744073709551615 + 1))]) ∧ ∃ X, w' = w.alloc X := by
  have d := new2 (W := w) rfl (.int .u64 (a % (18446744073709551615 + 1))) (.int .u64 (b % (18446744073709551615 + 1))) 35
  have e1 : IntKind.u64.wrap a = a % (18446744073709551615 + 1) := rfl
  have e2 : IntKind.u64.wrap b = b % (18446744073709551615 + 1) := rfl
  have i1 : 0 ≤ a % (18446744073709551615 + 1) ∧ a % (18446744073709551615 + 1) ≤ 18446744073709551615 := by omega
  have i2 : 0 ≤ b % (18446744073709551615 + 1) ∧ b % (18446744073709551615 + 1) ≤ 18446744073709551615 := by omega
  go_enter Try.func11, Try.ntmps11
  go_wp2_with fail
  refine bodyPost_ret (v := .agg #[.int .u64 (a % (18446744073709551615 + 1)), .int .u64 (b % (18446744073709551615 + 1))]) ?_ rfl ?_
  · simp [results, Try.results11, go_sem]
    try omega
  · exact ⟨rfl, _, rfl⟩

/-- An append of one span as a step of a region that draws. -/
theorem step_append1 {w : World} {ops : Array Oper} {o : Oper} {a : Act} {K : Act → World → Prop} {Q : Exit → Act → World → Prop} {E : Prop} (hw : Region.wanted o (yielded ops a.tmps) = true) (s x : Operand)
    (ho : o.op = .call { callee := .builtin .append, args := #[s, x], argTypes := #[24, 24] })
    {base : Nat} {v : Value} {xs : List Sp} (y : Sp) {g cap : Nat} (hs : a.eval s = v) (hown : Own w base v xs) (hx : a.eval x = .slice (some ⟨g, 0, none⟩) 1 cap) (h0 : w.cell? ⟨g, 0, none⟩ = some (.int .u64 y.1)) (h1 : w.cell? ⟨g, 1, none⟩ = some (.int .u64 y.2)) (hb : xs.length ≤ 1099511627776) (hbase : base ≤ w.heap.size)
    (h : ∀ v' w', Own w' base v' (xs ++ [y]) → w.grownBy w' v.ownBlock → K (a.put o.dst v') w') : if Region.wanted o (yielded ops a.tmps) = true then Oper.wp Try.prog o a w K Q else E := by
  rw [if_pos hw]
  obtain ⟨v', w', hr, h2, h3⟩ := run_append1 o.type hown h0 h1 hb hbase (cap := cap)
  unfold Oper.wp execOp
  simp only [ho, resolve, invoke, builtin, Sem.run_bind, Sem.run_pure, Result.andThen_ok, List.map_toArray, List.map_cons, List.map_nil, hs, hx, hr]
  exact h v' w' h2 h3
set_option maxRecDepth 100000 in
set_option maxHeartbeats 4000000 in
theorem many_any {w : World} {v : Value} {zs : List Int} (hv : UL w v zs) (hl : zs.length ≤ 4294967296) :
    Calls Try.prog 5 #[v] w (SetPost w (OfR 18446744073709551615 (pairs 18446744073709551615 zs))) := by
  have HV : Hid (∀ X, UL (w.alloc X) v zs) := fun X => hv.below ((Below.refl _ _).alloc (Nat.le_refl _) _) (Nat.le_refl _)
  obtain ⟨hr, ao, cap, rfl, h1, h2, h3, h5⟩ := hv
  have HR : Hid (∀ z ∈ zs, 0 ≤ z ∧ z ≤ 18446744073709551615) := hr
  unfold maxLen at h2
  clear h3 h5 hr
  go_enter Try.func5, Try.ntmps5
  go_wp2_with fail
  obtain ⟨W0, hW0⟩ : ∃ W0, w.alloc (Obj.cells #[.slice none 0 0] 26) = W0 := ⟨_, rfl⟩
  have HV0 : Hid (UL W0 (.slice ao zs.length cap) zs) := hW0 ▸ HV.out _
  have HB0 : Hid (Below w.heap.size w W0) := hW0 ▸ (Below.refl _ _).alloc (Nat.le_refl _) _
  have HR0 : Hid (W0.heap[w.heap.size]? = some (Obj.cells #[.slice none 0 0] 26)) := hW0 ▸ heap_alloc_new w _
  have HZ : Hid (W0.heap.size = w.heap.size + 1) := show W0.heap.size = w.heap.size + 1 by rw [← hW0]; simp
  rw [hW0]
  clear hW0 HV
  go_loopw [3, 4] (fun x i wr => ∃ k j : Nat, j = 2 * k ∧ j ≤ zs.length ∧ i = .int .i64 (j : Int) ∧ Hid (Own wr W0.heap.size x (pairsN 18446744073709551615 zs k)) ∧ Hid (Below W0.heap.size W0 wr)) (fun _ i _ => zs.length - (intOf i).toNat)
  case atStart => exact ⟨0, 0, rfl, Nat.zero_le _, rfl, Own.nil _ _, Below.refl _ _⟩
  case round =>
    obtain ⟨k, j, hj, hk, rfl, HO, HB⟩ := hrel
    by_cases hlt : j + 1 < zs.length
    · obtain ⟨_, ao', cap', e, _, _, _, h5⟩ := HV0.out.below HB.out (Nat.le_refl _)
      cases e
      obtain ⟨g, off, rfl, d0⟩ := h5 j (by omega)
      obtain ⟨g', off', e', d1⟩ := h5 (j + 1) hlt
      cases e'
      clear h5
      have r0 := HR.out zs[j] (List.getElem_mem _)
      have r1 := HR.out zs[j + 1] (List.getElem_mem _)
      have hp := pairsN_succ 18446744073709551615 zs k
      rw [← hj, List.getElem?_eq_getElem (show j < zs.length by omega), List.getElem?_eq_getElem hlt] at hp
      simp only [Option.getD_some] at hp
      obtain ⟨a, ha⟩ : ∃ a, a = zs[j] := ⟨_, rfl⟩
      obtain ⟨b, hb⟩ : ∃ b, b = zs[j + 1] := ⟨_, rfl⟩
      rw [← ha] at d0 r0 hp
      rw [← hb] at d1 r1 hp
      have HP : Hid (pairsN 18446744073709551615 zs (k + 1) = pairsN 18446744073709551615 zs k ++ [(a % (18446744073709551615 + 1), b % (18446744073709551615 + 1))]) := hp
      have HJ : Hid (j = 2 * k) := hj
      clear hp ha hb hj
      have i0 : (0 : Int) ≤ (j : Int) := by omega
      have i1 : (j : Int) < (zs.length : Int) := by omega
      obtain ⟨j1, hj1⟩ : ∃ j1, j1 = j + 1 := ⟨_, rfl⟩
      have q : IntKind.i64.wrap ((j : Int) + 1) = (j1 : Int) := by rw [wrap_i64 (by omega) (by omega)]; omega
      have i2 : (0 : Int) ≤ (j1 : Int) := by omega
      have i3 : (j1 : Int) < (zs.length : Int) := by omega
      rw [← hj1] at d1
      have HJ1 : Hid (j1 = j + 1) := hj1
      clear hj1
      have hlen : (pairsN 18446744073709551615 zs k).length ≤ 1099511627776 := by rw [pairsN_length]; have := HJ.out; omega
      obtain ⟨a3, n3, c3, hu3⟩ : ∃ a n c, u3 = .slice a n c := by
        obtain ⟨a, c, e, _⟩ := HO.out.sv
        exact ⟨a, _, c, e⟩
      subst hu3
      have HOx : Hid (∀ X Y, Own ((wr.alloc X).alloc Y).drew W0.heap.size (.slice a3 n3 c3) (pairsN 18446744073709551615 zs k)) := fun X Y => (HO.out.alloc X).alloc Y
      have HBx : Hid (∀ X Y, Below W0.heap.size W0 ((wr.alloc X).alloc Y).drew) := fun X Y => ((HB.out.alloc HB.out.size X).alloc (by have := HB.out.size; simp; omega) Y).drew
      go_wp2_with fail
      have HCell : Hid (∀ W, Below W0.heap.size W0 W → W.cell? ⟨g, off + j, none⟩ = some (.int .u64 a) ∧ W.cell? ⟨g, off + j1, none⟩ = some (.int .u64 b)) := fun W hW => by
        obtain ⟨_, ao', cap', e, _, _, _, h5⟩ := HV0.out
        cases e
        obtain ⟨g2, off2, e2, k0⟩ := h5 j (by omega)
        cases e2
        have hg := World.block_lt_of_cell? W0 _ k0
        exact ⟨by rw [hW.cell (p := ⟨g, off + j, none⟩) hg, ← HB.out.cell (p := ⟨g, off + j, none⟩) hg]; exact d0, by rw [hW.cell (p := ⟨g, off + j1, none⟩) hg, ← HB.out.cell (p := ⟨g, off + j1, none⟩) hg]; exact d1⟩
      go_region_held3 (fun w' => w'.cell? ⟨g, off + j, none⟩ = some (.int .u64 a) ∧ w'.cell? ⟨g, off + j1, none⟩ = some (.int .u64 b)) (go_keep) (first | (go_at_call 11; refine (pair_any r0 r1 _).mono ?_; rintro e w' ⟨rfl, X, rfl⟩) | (refine step_append1 (by kernel_rfl) (.tmp 12) (.tmp 23) (by rfl) (a % (18446744073709551615 + 1), b % (18446744073709551615 + 1)) (by rfl) (HOx.out _ _) (by rfl) (new2 (W := wr.alloc X) (n := wr.heap.size + 1) (by simp) _ _ _).1 (new2 (W := wr.alloc X) (n := wr.heap.size + 1) (by simp) _ _ _).2 hlen (HBx.out _ _).size ?_; intro v2 w2 h2 g2; have HB2 : Hid (Below W0.heap.size W0 w2) := (HBx.out _ _).grown g2 (HBx.out _ _).size (fun k hk => HO.out.ge hk); have HO2 : Hid (Own w2 W0.heap.size v2 (pairsN 18446744073709551615 zs (k + 1))) := HP.out ▸ h2; obtain ⟨k0, k1⟩ := HCell.out _ HB2.out; clear h2 g2))
      go_wp2_with fail
      go_roundw
      case rel => exact ⟨k + 1, j + 2, by have := HJ.out; omega, by omega, by go_num, HO2.out, HB2.out⟩
      case measure => simp [intOf]; omega
    · have hkk : k = zs.length / 2 := by omega
      have HO' : Hid (Own wr W0.heap.size u3 (pairs 18446744073709551615 zs)) := show Own wr W0.heap.size u3 (pairs 18446744073709551615 zs) by unfold pairs; rw [← hkk]; exact HO.out
      have hlen : (pairs 18446744073709551615 zs).length ≤ 1099511627776 := by unfold pairs; rw [pairsN_length]; omega
      have hbk : wr.heap[w.heap.size]? = some (.cells #[.slice none 0 0] 26) := by
        rw [HB.out.block _ (by have := HZ.out; omega)]
        exact HR0.out
      have HCe : Hid (∀ W, Below wr.heap.size wr W → W.cell? ⟨w.heap.size, 0, none⟩ = some (.slice none 0 0) ∧ W.frozen? ⟨w.heap.size, 0, none⟩ = false) := fun W hW => by
        have hb := (hW.block w.heap.size (by have := HZ.out; have := HB.out.size; omega)).trans hbk
        exact ⟨by rw [cell_of_row _ _ 0 _ _ _ hb]; rfl, by simp [World.frozen?, hb]⟩
      clear hbk HO
      go_wp2_with fail
      refine (of_any HO'.out.sv (pairs_fits (by decide) zs) hlen).mono ?_
      rintro e w2 ⟨v2, rs, rfl, ho2, hr2, hb2⟩
      obtain ⟨a2, n2, c2, hv2⟩ : ∃ a n c, v2 = .slice a n c := by
        obtain ⟨a, c, e, _⟩ := ho2.sv
        exact ⟨a, _, c, e⟩
      subst hv2
      obtain ⟨hce, hfe⟩ := HCe.out _ hb2
      have HO2 : Hid (Own w2 wr.heap.size (.slice a2 n2 c2) rs) := ho2
      have HR2 : Hid (OfR 18446744073709551615 (pairs 18446744073709551615 zs) rs) := hr2
      have HB2 : Hid (Below w.heap.size w w2) := (HB0.out.trans (HB.out.mono HB0.out.size)).trans (hb2.mono (Nat.le_trans HB0.out.size HB.out.size))
      clear ho2 hr2 hb2
      go_wp2_with fail
      have d0 := World.cell?_setCell_same' w2 ⟨w.heap.size, 0, none⟩ (.slice a2 n2 c2) (by rw [hce]; rfl)
      refine bodyPost_ret (v := .agg #[.slice a2 n2 c2]) (by simp [results, Try.results5, go_sem, d0]) rfl ?_
      exact ⟨_, rs, rfl, (HO2.out.low (by have := HZ.out; have := HB.out.size; omega) _ _).lower (by have := HZ.out; have := HB.out.size; omega), HR2.out, HB2.out.setCell (p := ⟨w.heap.size, 0, none⟩) (Nat.le_refl _) _⟩
end Go.Proofs.Ytabgmlnlooiddaa.U64
