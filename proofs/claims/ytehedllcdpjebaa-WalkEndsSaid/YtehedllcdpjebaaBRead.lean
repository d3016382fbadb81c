/- read: bytes read over pages into a row of zeros. Own work. -/
import Derived.Test.YtehedllcdpjebaaBLays
import Derived.Deep.RegionLaw
namespace Go.Proofs.Ytehedllcdpjebaa
open Go.RowKit Go.Maps
theorem Pg.sl {w : World} {g : Nat} {M : Nat → Nat} {k r : Nat} (h : Pg w g (pageOf M k)) (hz : ∀ p, M p < 256) (hr : r < 4096) : Sl w (.slice (some ⟨g, r, none⟩) (4096 - r) (4096 - r)) ((pageOf M k).drop r) := by
  have hl : ((pageOf M k).drop r).length = 4096 - r := by rw [List.length_drop, pageOf_length]
  refine ⟨_, 4096 - r, by rw [hl], by rw [hl]; omega, by unfold maxLen; omega, fun z hz' => ?_, by simp, fun i hi => ⟨g, r, rfl, ?_⟩⟩
  · obtain ⟨i, hi, rfl⟩ := List.getElem_of_mem (List.mem_of_mem_drop hz')
    rw [pageOf_length] at hi
    have := pageOf_get M k i hi
    rw [List.getElem?_eq_getElem (by rw [pageOf_length]; exact hi)] at this
    rw [Option.some.inj this]
    exact hz _
  · rw [cell_of_row w g (r + i) _ _ _ h, List.getElem?_toArray, bvs_get _ _ (by rw [pageOf_length]; omega)]
    simp only [List.getD_eq_getElem?_getD, List.getElem?_drop]
/-- what the row holds when i bytes are read -/
def rdTo (M : Nat → Nat) (a C i : Nat) : List Nat := bytesAt M a i ++ List.replicate (C - i) 0
theorem rdTo_length (M : Nat → Nat) (a C i : Nat) (h : i ≤ C) : (rdTo M a C i).length = C := by
  rw [rdTo, List.length_append, bytesAt_length, List.length_replicate]; omega
theorem rdTo_zero (M : Nat → Nat) (a C : Nat) : rdTo M a C 0 = List.replicate C 0 := by simp [rdTo, bytesAt]
theorem bytesAt_add (M : Nat → Nat) (a i n : Nat) : bytesAt M a (i + n) = bytesAt M a i ++ bytesAt M (a + i) n := by
  refine (bytesAt_ext (by rw [List.length_append, bytesAt_length, bytesAt_length]) fun j hj => ?_).symm
  by_cases h : j < i
  · rw [List.getElem?_append_left (by rw [bytesAt_length]; exact h), bytesAt_get _ _ _ _ h]
  · rw [List.getElem?_append_right (by rw [bytesAt_length]; omega), bytesAt_length, bytesAt_get _ _ _ _ (by omega)]
    congr 2
    omega
theorem rdTo_copy {M : Nat → Nat} {a C i n k r : Nat} (ha : a + i = k * 4096 + r) (hn : r + n ≤ 4096) : (rdTo M a C i).take i ++ ((pageOf M k).drop r).take n ++ (rdTo M a C i).drop (i + n) = rdTo M a C (i + n) := by
  have e1 : (rdTo M a C i).take i = bytesAt M a i := by
    rw [rdTo, List.take_append_of_le_length (by rw [bytesAt_length]; omega), List.take_of_length_le (by rw [bytesAt_length]; omega)]
  have e2 : (rdTo M a C i).drop (i + n) = List.replicate (C - (i + n)) 0 := by
    have e0 : (rdTo M a C i).drop i = List.replicate (C - i) 0 := by
      rw [rdTo]
      exact List.drop_left' (bytesAt_length M a i)
    rw [← List.drop_drop, e0, List.drop_replicate]
    congr 1
    omega
  have e3 : ((pageOf M k).drop r).take n = bytesAt M (a + i) n := by
    refine bytesAt_ext (by rw [List.length_take, List.length_drop, pageOf_length]; omega) fun j hj => ?_
    rw [List.getElem?_take_of_lt hj, List.getElem?_drop, pageOf_get _ _ _ (by omega), ha, Nat.add_assoc]
  rw [e1, e2, e3, ← bytesAt_add, rdTo]
theorem rdTo_skip {M : Nat → Nat} {a C i n k r : Nat} (hi : i + n ≤ C) (ha : a + i = k * 4096 + r) (hn : r + n ≤ 4096) (hz : isZ M k) : rdTo M a C i = rdTo M a C (i + n) := by
  have e3 : bytesAt M (a + i) n = List.replicate n 0 := by
    refine (bytesAt_ext List.length_replicate fun j hj => ?_).symm
    rw [List.getElem?_replicate, if_pos hj, ha, Nat.add_assoc, hz (r + j) (by omega)]
  rw [rdTo, rdTo, bytesAt_add, e3, List.append_assoc, List.replicate_append_replicate]
  congr 2
  omega
theorem step_copy {w : World} {ops : Array Oper} {o : Oper} {a : Act} {K : Act → World → Prop} {Q : Exit → Act → World → Prop} {E : Prop} (hw : Region.wanted o (yielded ops a.tmps) = true) (d s : Operand)
    (ho : o.op = .call { callee := .builtin .copy, args := #[d, s], argTypes := #[61, 61] }) {g off dl dc so sl sc gs : Nat} (hd : a.eval d = .slice (some ⟨g, off, none⟩) dl dc) (hs : a.eval s = .slice (some ⟨gs, so, none⟩) sl sc)
    {L zs : List Nat} {t : TypeId} (hg : w.heap[g]? = some (.cells (bvs L).toArray t (0, 0))) (n : Nat) (hn : n = min zs.length dl) (hz : Sl w (.slice (some ⟨gs, so, none⟩) sl sc) zs) (hfit : off + n ≤ L.length)
    (h : ∀ w', w'.heap[g]? = some (.cells (bvs (L.take off ++ zs.take n ++ L.drop (off + n))).toArray t (0, 0)) → Keeps (fun j => j = g) w w' → K (a.put o.dst (goInt n)) w') : if Region.wanted o (yielded ops a.tmps) = true then Oper.wp Try.prog o a w K Q else E := by
  rw [if_pos hw]
  obtain ⟨i, hi, hz0, hz1, hz2⟩ := info_parts info_byte
  have hsz : (Try.prog.info? 5).map (·.size) = some 1 := by rw [hi, Option.map_some, hz1]
  obtain ⟨ao, cap, e, h1, h2, h3, h4, h5⟩ := hz
  cases e
  have hcl : (bvs (zs.take n)).length = n := by rw [bvs_length, List.length_take]; omega
  have hrun := run_copy_row (P := Try.prog) w 61 61 o.type 5 g off dl dc ⟨gs, so, none⟩ zs.length sc _ t (bvs (zs.take n)) Try.underlying61 hsz hg (by rw [hcl]; exact hn) (fun j u hj => by
      have hjl : j < n := by rw [← hcl]; exact (List.getElem?_eq_some_iff.1 hj).1
      obtain ⟨b', o'', e', hc⟩ := h5 j (by omega)
      cases e'
      rw [bvs_get _ j (by simp; omega)] at hj
      cases hj
      rw [Addr.add_lit, hc]
      simp only [List.getD_eq_getElem?_getD, List.getElem?_take_of_lt hjl]) (by rw [hcl]; simpa [bvs_length] using hfit) (bvs_one _)
  have e : ((bvs L).toArray.toList.take off ++ bvs (zs.take n) ++ (bvs L).toArray.toList.drop (off + n)) = bvs (L.take off ++ zs.take n ++ L.drop (off + n)) := by
    rw [bvs_append, bvs_append]
    show (bvs L).take off ++ bvs (zs.take n) ++ (bvs L).drop (off + n) = _
    rw [bvs, ← List.map_take, ← List.map_drop]; rfl
  rw [hcl, e] at hrun
  unfold Oper.wp execOp
  simp only [ho, resolve, invoke, builtin, Sem.run_bind, Sem.run_pure, Result.andThen_ok, List.map_toArray, List.map_cons, List.map_nil, hd, hs, hrun]
  exact h _ (setRow_heap w g _ _ t _ hg) (Keeps.setRow _ _ _)
def RowT (w : World) (t : TypeId) (g : Nat) (L : List Nat) : Prop := w.heap[g]? = some (.cells (bvs L).toArray t (0, 0))
set_option maxRecDepth 100000 in
set_option maxHeartbeats 4000000 in
theorem read_any {w : World} {B : Nat} {T : Nat → Option Nat} {M : Nat → Nat} {a g N C cap : Nat} {t : TypeId} (h : Held w B T M) (ha : a + N ≤ 4294967296) (hg : RowT w t g (List.replicate C 0)) (hf : ¬ Foot B T g) (hN : N ≤ C) (hc : N ≤ cap) (hcm : cap ≤ maxLen) :
    Calls Try.prog 106 #[.map (some B), .int .u64 (a : Int), .slice (some ⟨g, 0, none⟩) N cap] w fun e w' => e = .returned (.tuple #[]) ∧ RowT w' t g (rdTo M a C N) ∧ Keeps (fun j => j = g) w w' := by
  have HH : Hid (∀ W, Keeps (fun j => j = g) w W → Held W B T M) := fun W hk => h.keeps hk (fun j hj e => hf (by rw [← e]; exact hj))
  have HG : Hid (RowT w t g (rdTo M a C 0)) := by rw [rdTo_zero]; exact hg
  have hbig : cap ≤ 9223372036854775807 := by unfold maxLen at hcm; omega
  have HSm : Hid (∀ p, M p < 256) := h.2.2.2.2.1
  clear h hf hg hcm
  go_enter Try.func106, Try.ntmps106
  go_wp2_with fail
  go_loopw [1, 2] (fun x v wr => ∃ i o' m c' : Nat, i ≤ N ∧ m ≤ c' ∧ c' ≤ 9223372036854775807 ∧ x = .int .u64 ((a + i : Nat) : Int) ∧ v = .slice (some ⟨g, o', none⟩) m c' ∧ Hid (m = N - i) ∧ (0 < m → o' = i) ∧ Hid (RowT wr t g (rdTo M a C i)) ∧ Hid (Keeps (fun j => j = g) w wr)) (fun _ v _ => match v with | .slice _ m _ => m | _ => 0)
  case atStart => exact ⟨0, 0, N, cap, by omega, by omega, by omega, rfl, rfl, (rfl : _ = _), fun _ => rfl, HG, Keeps.refl _ _⟩
  case round =>
    obtain ⟨i, o', m, c', hi, hmc, hc', rfl, rfl, HM, ho, HR, HK⟩ := hrel
    by_cases hlt : 0 < m
    · obtain rfl := ho hlt
      obtain ⟨n, hn⟩ : ∃ n, n = min m (4096 - (a + o') % 4096) := ⟨_, rfl⟩
      obtain ⟨k, r, hkr, hr, hkb⟩ : ∃ k r, a + o' = k * 4096 + r ∧ r < 4096 ∧ k < 1048576 := ⟨(a + o') / 4096, (a + o') % 4096, by omega, by omega, by have := HM.out; omega⟩
      have HW : Hid (Calls Try.prog 49 #[.int .u64 ((a + o' : Nat) : Int), .int .i64 (m : Int)] wr fun e w' => e = .returned (.int .i64 (n : Int)) ∧ w' = wr) := by rw [hn]; exact within_any (by have := HM.out; omega) wr
      have n1 : n ≤ m := by omega
      have n2 : 0 < n := by omega
      have n3 : r + n ≤ 4096 := by omega
      have n4 : o' + n ≤ N := by have := HM.out; omega
      have hab : a + o' + n ≤ 4294967296 := by omega
      have q1 : ((a : Int) + (o' : Int)) / 4096 = (k : Int) := by omega
      have q2 : ((a : Int) + (o' : Int)) % 4096 = (r : Int) := by omega
      have q3 : ((a : Int) + (o' : Int)).tmod 4096 = (r : Int) := by rw [Int.tmod_eq_emod_of_nonneg (by omega)]; exact q2
      have n5 : n ≤ c' := by omega
      have HKr : Hid (a + o' = k * 4096 + r) := hkr
      have hHw := HH.out wr HK.out
      clear hn hkr
      cases hT : T k with
      | none =>
        have hlk := hHw.1.look_none hT (by omega)
        have HR2 : Hid (RowT wr t g (rdTo M a C (o' + n))) := by
          have := HR.out
          rw [rdTo_skip (n := n) (by omega) HKr.out n3 (hHw.2.2.1 k hT)] at this
          exact this
        clear hT hHw
        go_wp2_with (first | (go_at_call 49; refine HW.out.mono ?_; rintro e w' ⟨rfl, hw⟩; have hw := hw.symm; subst hw))
        go_region
        go_wp2_with fail
        go_roundw
        case rel => exact ⟨o' + n, if c' = n then o' else o' + n, m - n, c' - n, n4, by omega, by omega, by go_num, by split <;> rfl, (by have := HM.out; omega : m - n = N - (o' + n)), fun h0 => if_neg (by omega), HR2, HK.out.drew⟩
        case measure => simp; omega
      | some gp =>
        have hlk := hHw.1.look_some hT (by omega)
        have HP : Hid (Sl wr (.slice (some ⟨gp, r, none⟩) (4096 - r) (4096 - r)) ((pageOf M k).drop r)) := ((hHw.2.1 k gp hT).1).sl HSm.out hr
        have hslc := fun W => slice_page W gp r hr
        clear hT hHw
        go_wp2_with (first | (go_at_call 49; refine HW.out.mono ?_; rintro e w' ⟨rfl, hw⟩; have hw := hw.symm; subst hw))
        have HFit : Hid (o' + n ≤ (rdTo M a C o').length) := by show _ ≤ _; rw [rdTo_length _ _ _ _ (by omega)]; omega
        have HMin : Hid (n = min ((pageOf M k).drop r).length n) := by show n = _; rw [List.length_drop, pageOf_length]; omega
        have HSt : Hid ((rdTo M a C o').take o' ++ ((pageOf M k).drop r).take n ++ (rdTo M a C o').drop (o' + n) = rdTo M a C (o' + n)) := rdTo_copy HKr.out n3
        go_region_law (refine step_copy rfl (.tmp 26) (.tmp 31) rfl (by first | (simp [Act.eval]; done) | simp [Act.eval, Act.put]) (by first | (simp [Act.eval]; done) | simp [Act.eval, Act.put]) (g := g) (off := o') (dl := n) (dc := c') (gs := gp) (so := r) (sl := 4096 - r) (sc := 4096 - r) (zs := (pageOf M k).drop r) HR.out n HMin.out HP.out HFit.out ?_; intro w3 h3 k3; rw [HSt.out] at h3; have HR3 : Hid (RowT w3 t g (rdTo M a C (o' + n))) := h3; have HK3 : Hid (Keeps (fun j => j = g) wr.drew w3) := k3; clear h3 k3)
        go_wp2_with fail
        go_region
        go_wp2_with fail
        go_roundw
        case rel => exact ⟨o' + n, if c' = n then o' else o' + n, m - n, c' - n, n4, by omega, by omega, by go_num, by split <;> rfl, (by have := HM.out; omega : m - n = N - (o' + n)), fun h0 => if_neg (by omega), HR3, ((HK.out.drew).trans HK3.out (fun _ _ e => e)).drew⟩
        case measure => simp; omega
    · have HE : Hid (i = N) := (by have := HM.out; omega : i = N)
      go_wp2_with fail
      go_end0
      have h1 := HR.out
      rw [HE.out] at h1
      exact ⟨rfl, h1, HK.out⟩
end Go.Proofs.Ytehedllcdpjebaa
