import Derived.Test.YtddgoncbdlhhhaaGreatR20
import Derived.Test.YtddgoncbdlhhhaaGreatR36
import Derived.Deep.QuietTactic
import Derived.BigQuiet
/- bulkheadref3.Refuses: why there is no such machine. Own work. -/
namespace Go.Proofs.YtddgoncbdlhhhaaGreat
open Go.RowKit Go.Maps Go.Proofs.YtddgoncbdlhhhaaGreat.Sp
/-- where Refuses stands ahead of the k-th range -/
def RfAt (w1 wr : World) (vl : Value) (rs ds : List Sp) (k : Nat) : Prop :=
  Below w1.heap.size w1 wr ∧ U64.SV wr vl (rs ++ ds) ∧ whW rs.length [] (rs ++ ds) = whW rs.length ((rs ++ ds).take k) ((rs ++ ds).drop k) ∧ ∀ x ∈ (rs ++ ds).take k, 0 ≤ x.1 ∧ 0 < x.2 ∧ x.1 + x.2 ≤ 4294967296
theorem RfAt.no {w1 wr : World} {vl : Value} {rs ds : List Sp} {k : Nat} {y : Int} (h : RfAt w1 wr vl rs ds k) (hl : ¬ (8 < rs.length ∨ 32 < ds.length)) (hk : k < (rs ++ ds).length) (hy : refuse1 ((rs ++ ds).take k) (rs ++ ds)[k].1 (rs ++ ds)[k].2 (mostOf rs.length k) = y) (h0 : y ≠ 0) : refW rs ds = y := by
  rw [refW_eq hl, h.2.2.1, whW_step hk, hy, if_neg h0, if_pos h0]
theorem RfAt.next {w1 wr wr' : World} {vl : Value} {rs ds : List Sp} {k : Nat} (h : RfAt w1 wr vl rs ds k) (hb : Below wr.heap.size wr wr') (hk : k < (rs ++ ds).length) (hf : Fits 18446744073709551615 (rs ++ ds)) (hy : refuse1 ((rs ++ ds).take k) (rs ++ ds)[k].1 (rs ++ ds)[k].2 (mostOf rs.length k) = 0) : RfAt w1 wr' vl rs ds (k + 1) := by
  refine ⟨h.1.trans (hb.mono h.1.size), h.2.1.below hb (Nat.le_refl _), by rw [h.2.2.1, whW_step hk, if_pos hy], fun x hx => ?_⟩
  rw [List.take_succ_eq_append_getElem hk] at hx
  rcases List.mem_append.1 hx with hx | hx
  · exact h.2.2.2 x hx
  · rw [List.mem_singleton.1 hx]
    have hz := hf (rs ++ ds)[k] (List.getElem_mem _)
    have := refuse1_zero hy hz.2.2.1
    exact ⟨hz.1, this.1, this.2⟩
theorem RfAt.last {w1 wr : World} {vl : Value} {rs ds : List Sp} (h : RfAt w1 wr vl rs ds (rs ++ ds).length) (hl : ¬ (8 < rs.length ∨ 32 < ds.length)) : refW rs ds = if 67108864 < smR rs then 36 else 0 := by
  have e : whW rs.length [] (rs ++ ds) = 0 := by rw [h.2.2.1, List.drop_length]; rfl
  rw [refW_eq hl, e]
  simp
set_option maxRecDepth 100000 in
set_option maxHeartbeats 8000000 in
theorem refuses_any {w : World} {vr vd : Value} {rs ds : List Sp} (hr : U64.SV w vr rs) (hd : U64.SV w vd ds) (fr : Fits 18446744073709551615 rs) (fd : Fits 18446744073709551615 ds) :
    Calls Tryz.prog 16 #[.agg #[vr, vd]] w fun e w' => e = .returned (.int .i64 (refW rs ds)) ∧ Below w.heap.size w w' := by
  have HB0 : Hid (Below w.heap.size w (w.alloc (Obj.cells #[vr, vd] 24))) := (Below.refl _ _).alloc (Nat.le_refl _) _
  have HR : Hid (U64.SV (w.alloc (Obj.cells #[vr, vd] 24)) vr rs) := hr.below HB0.out (Nat.le_refl _)
  have HD : Hid (U64.SV (w.alloc (Obj.cells #[vr, vd] 24)) vd ds) := hd.below HB0.out (Nat.le_refl _)
  have HX : Hid ((w.alloc (Obj.cells #[vr, vd] 24)).cell? ⟨w.heap.size, 0, none⟩ = some vr) := (U64.new2 rfl vr vd _).1
  obtain ⟨ar, cr, rfl, hcr, hmr, _, _, _⟩ := hr
  obtain ⟨ad, cd, rfl, hcd, hmd, _, _, _⟩ := hd
  unfold maxLen at hmr hmd
  by_cases hl : 8 < rs.length ∨ 32 < ds.length
  · have HE : Hid (refW rs ds = 4) := if_pos hl
    by_cases h1 : 8 < rs.length
    · have e1 : decide (8 < (rs.length : Int)) = true := decide_eq_true (by omega)
      clear hl
      go_enter Tryz.func16, Tryz.ntmps16
      go_wp2_with fail
      go_ret
      exact ⟨by rw [HE.out]; rfl, HB0.out⟩
    · have e1 : decide (8 < (rs.length : Int)) = false := decide_eq_false (by omega)
      have e2 : decide (32 < (ds.length : Int)) = true := decide_eq_true (by omega)
      clear hl
      go_enter Tryz.func16, Tryz.ntmps16
      go_wp2_with fail
      go_ret
      exact ⟨by rw [HE.out]; rfl, HB0.out⟩
  have HL : Hid (¬ (8 < rs.length ∨ 32 < ds.length)) := hl
  have HF : Hid (Fits 18446744073709551615 (rs ++ ds)) := fun x hx => (List.mem_append.1 hx).elim (fr x) (fd x)
  have e1 : decide (8 < (rs.length : Int)) = false := decide_eq_false (by omega)
  have e2 : decide (32 < (ds.length : Int)) = false := decide_eq_false (by omega)
  have hr8 : rs.length ≤ 8 := by omega
  have hd32 : ds.length ≤ 32 := by omega
  have HAl : Hid (Calls Tryz.prog 44 #[.agg #[.slice ar rs.length cr, .slice ad ds.length cd]] (w.alloc (Obj.cells #[.slice ar rs.length cr, .slice ad ds.length cd] 24)) fun e w' => ∃ a n c, e = .returned (.slice a n c) ∧ Hid (Below (w.heap.size + 1) (w.alloc (Obj.cells #[.slice ar rs.length cr, .slice ad ds.length cd] 24)) w') ∧ Hid (U64.SV w' (.slice a n c) (rs ++ ds))) := by
    refine (all_any HR.out HD.out (by omega)).mono ?_
    rintro e w' ⟨a, n, c, rfl, hb, hs, _⟩
    exact ⟨a, n, c, rfl, hb.out.mono (by simp), hs⟩
  clear hl fr fd HD HR
  go_enter Tryz.func16, Tryz.ntmps16
  go_wp2_with fail
  refine HAl.out.mono ?_
  rintro e w1 ⟨al, nl, cl, rfl, HB1, HS1⟩
  have HX1 : Hid (w1.cell? ⟨w.heap.size, 0, none⟩ = some (.slice ar rs.length cr)) := (HB1.out.cell (p := ⟨w.heap.size, 0, none⟩) (Nat.lt_succ_self _)).trans HX.out
  have HBw : Hid (Below w.heap.size w w1) := HB0.out.trans (HB1.out.mono (Nat.le_succ _))
  have HZ : Hid (w.heap.size < w1.heap.size) := by have := HB1.out.size; simp at this; show _ < _; omega
  obtain ⟨al', cl', ev, hcl, hml, _⟩ := id HS1.out
  simp only [Value.slice.injEq] at ev
  obtain ⟨rfl, hnl, rfl⟩ := ev
  have HN : Hid (nl = (rs ++ ds).length) := hnl
  have hn40 : nl ≤ 40 := by rw [hnl, List.length_append]; omega
  have hcl' : nl ≤ cl := by rw [hnl]; exact hcl
  have HA0 : Hid (RfAt w1 w1 (.slice al nl cl) rs ds 0) := ⟨Below.refl _ _, HS1.out, by rw [List.take_zero, List.drop_zero], fun x hx => by simp at hx⟩
  unfold maxLen at hml
  clear hnl hcl HB1 HS1 HB0 HX HAl
  go_wp2_with fail
  go_loopw [5, 4] (fun i ram wr => ∃ k : Nat, k ≤ nl ∧ i = .int .i64 (k : Int) ∧ ram = .int .u64 (smR (rs.take k)) ∧ Hid (RfAt w1 wr (.slice al nl cl) rs ds k)) (fun i _ _ => nl - (intOf i).toNat)
  case atStart => exact ⟨0, Nat.zero_le _, rfl, rfl, HA0⟩
  case round =>
    clear HA0
    obtain ⟨k, hk, rfl, rfl, HA⟩ := hrel
    have x0 : wr.cell? ⟨w.heap.size, 0, none⟩ = some (.slice ar rs.length cr) := (HA.out.1.cell (p := ⟨w.heap.size, 0, none⟩) HZ.out).trans HX1.out
    obtain ⟨sm0, sm1⟩ : 0 ≤ smR (rs.take k) ∧ smR (rs.take k) ≤ 34359738368 := by
      have := smR_bound (rs.take k) (fun x hx => by
        have hm : x ∈ (rs ++ ds).take k := by
          rw [List.take_append]
          exact List.mem_append_left _ hx
        have := HA.out.2.2.2 x hm
        omega)
      have hle : (rs.take k).length ≤ 8 := by rw [List.length_take]; omega
      omega
    by_cases hlt : k < nl
    · obtain ⟨wA, hwA⟩ : ∃ wA, wA = wr := ⟨_, rfl⟩
      subst hwA
      have hkL : k < (rs ++ ds).length := by rw [← HN.out]; exact hlt
      obtain ⟨_, _, e, _, _, _, _, h5⟩ := id HA.out.2.1
      simp only [Value.slice.injEq] at e
      obtain ⟨rfl, hzz, rfl⟩ := e
      clear hzz
      obtain ⟨g, off, rfl, d0, d1⟩ := h5 k hkL
      clear h5
      obtain ⟨f0, f1, f2, f3⟩ := HF.out (rs ++ ds)[k] (List.getElem_mem _)
      have HNo : Hid (∀ y, refuse1 ((rs ++ ds).take k) (rs ++ ds)[k].1 (rs ++ ds)[k].2 (mostOf rs.length k) = y → y ≠ 0 → refW rs ds = y) := fun y => HA.out.no HL.out hkL
      have HNx : Hid (∀ wr', Below wA.heap.size wA wr' → refuse1 ((rs ++ ds).take k) (rs ++ ds)[k].1 (rs ++ ds)[k].2 (mostOf rs.length k) = 0 → RfAt w1 wr' (.slice (some ⟨g, off, none⟩) nl cl) rs ds (k + 1)) := fun wr' hb => HA.out.next hb hkL HF.out
      have HSm : Hid (smR (rs.take (k + 1)) = if k < rs.length then smR (rs.take k) + (rs ++ ds)[k].2 else smR (rs.take k)) := by
        show _ = _
        by_cases h : k < rs.length
        · rw [if_pos h, smR_step (ds := ds) h]
        · rw [if_neg h, smR_stays h]
      obtain ⟨a, ha⟩ : ∃ a, (rs ++ ds)[k].1 = a := ⟨_, rfl⟩
      obtain ⟨s, hs⟩ : ∃ s, (rs ++ ds)[k].2 = s := ⟨_, rfl⟩
      rw [ha] at d0 f0 f1 HNo HNx
      rw [hs] at d1 f2 f3 HNo HNx HSm
      clear ha hs
      have HMo : Hid (mostOf rs.length k = if k < rs.length then 18446744073709551615 else 1048576) := rfl
      generalize mostOf rs.length k = mo at *
      generalize smR (rs.take k) = t at *
      have HBe : Hid (Below w.heap.size w wA) := HBw.out.trans (HA.out.1.mono (Nat.le_of_lt HZ.out))
      by_cases c1 : s = 0 ∨ s % 4096 ≠ 0 ∨ mo < s
      · have HE : Hid (refW rs ds = 32) := HNo.out 32 (refuse_size c1) (by decide)
        have HC : Hid (s = 0 ∨ s % 4096 ≠ 0 ∨ mo < s) := c1
        clear c1 HNo HNx HSm
        by_cases s0 : s = 0
        · subst s0
          go_wp2_with fail
          go_ret
          exact ⟨by rw [HE.out]; rfl, HBe.out⟩
        · by_cases s1 : s % 4096 = 0
          · have hbig : mo < s := by have := HC.out; omega
            have hnr : ¬ k < rs.length := fun h => by have := HMo.out; rw [if_pos h] at this; omega
            have hw : decide ((rs.length : Int) ≤ (k : Int)) = true := decide_eq_true (by omega)
            have hb2 : 1048576 < s := by have := HMo.out; rw [if_neg hnr] at this; omega
            clear HMo hbig
            go_wp2_with fail
            go_ret
            exact ⟨by rw [HE.out]; rfl, HBe.out⟩
          · go_wp2_with fail
            go_ret
            exact ⟨by rw [HE.out]; rfl, HBe.out⟩
      · have HC : Hid (¬ (s = 0 ∨ s % 4096 ≠ 0 ∨ mo < s)) := c1
        have s0 : ¬ s = 0 := by omega
        have s0e : (s == 0) = false := by simpa using s0
        have s1 : s % 4096 = 0 := by omega
        have HMs : Hid (¬ k < rs.length → ¬ 1048576 < s) := fun h => by have := HMo.out; rw [if_neg h] at this; omega
        clear c1 HMo
        by_cases c2 : a % 4096 = 0
        · by_cases c3 : 4294967296 ≤ a + (s - 1)
          · have HE : Hid (refW rs ds = 34) := HNo.out 34 (refuse_phys HC.out c2 c3) (by decide)
            clear HNo HNx HSm HC
            by_cases c4 : 4294967296 ≤ a
            · have c4d : decide (4294967296 ≤ a) = true := decide_eq_true c4
              by_cases hw : k < rs.length
              · have hwd : decide ((rs.length : Int) ≤ (k : Int)) = false := decide_eq_false (by omega)
                clear HMs
                go_wp2_with fail
                go_quiet (fail)
                go_wp2_with fail
                go_ret
                exact ⟨by rw [HE.out]; rfl, by first | exact HBe.out | exact HBe.out.drew | exact U64.below_drewN' HBe.out _⟩
              · have hwd : decide ((rs.length : Int) ≤ (k : Int)) = true := decide_eq_true (by omega)
                have hms := HMs.out hw
                clear HMs
                go_wp2_with fail
                go_quiet (fail)
                go_wp2_with fail
                go_ret
                exact ⟨by rw [HE.out]; rfl, by first | exact HBe.out | exact HBe.out.drew | exact U64.below_drewN' HBe.out _⟩
            · have c4d : decide (4294967296 ≤ a) = false := decide_eq_false c4
              have c5 : 4294967296 - a < s := by omega
              have c5d : decide (4294967296 - a < s) = true := decide_eq_true c5
              by_cases hw : k < rs.length
              · have hwd : decide ((rs.length : Int) ≤ (k : Int)) = false := decide_eq_false (by omega)
                clear HMs
                go_wp2_with fail
                go_quiet (fail)
                go_wp2_with fail
                go_ret
                exact ⟨by rw [HE.out]; rfl, by first | exact HBe.out | exact HBe.out.drew | exact U64.below_drewN' HBe.out _⟩
              · have hwd : decide ((rs.length : Int) ≤ (k : Int)) = true := decide_eq_true (by omega)
                have hms := HMs.out hw
                clear HMs
                go_wp2_with fail
                go_quiet (fail)
                go_wp2_with fail
                go_ret
                exact ⟨by rw [HE.out]; rfl, by first | exact HBe.out | exact HBe.out.drew | exact U64.below_drewN' HBe.out _⟩
          · have c4d : decide (4294967296 ≤ a) = false := decide_eq_false (by omega)
            have c5d : decide (4294967296 - a < s) = false := decide_eq_false (by omega)
            have HOv : Hid (∀ x ∈ (rs ++ ds).take k, (x.1 ≤ a + (s - 1) ∧ a ≤ x.1 + (x.2 - 1)) → refW rs ds = 35) := fun x hx ho => HNo.out 35 (refuse_over HC.out c2 c3 hx ho) (by decide)
            have HFin : Hid (∀ wr', Below wA.heap.size wA wr' → (∀ x ∈ (rs ++ ds).take k, ¬ (x.1 ≤ a + (s - 1) ∧ a ≤ x.1 + (x.2 - 1))) → RfAt w1 wr' (.slice (some ⟨g, off, none⟩) nl cl) rs ds (k + 1)) := fun wr' hb ho => HNx.out wr' hb (refuse_none HC.out c2 c3 ho)
            have f4 : a + s ≤ 4294967296 := by omega
            clear HNo HNx HC c3
            by_cases hw : k < rs.length
            · have hwd : decide ((rs.length : Int) ≤ (k : Int)) = false := decide_eq_false (by omega)
              have HSm2 : Hid (smR (rs.take (k + 1)) = t + s) := by have := HSm.out; rw [if_pos hw] at this; exact this
              clear HMs HSm
              go_wp2_with fail
              go_quiet (fail)
              go_wp2_with fail
              go_loopw [7] (fun j wi => ∃ q : Nat, q ≤ k ∧ j = .int .i64 (q : Int) ∧ Hid (Below wA.heap.size wA wi) ∧ Hid (∀ x ∈ (rs ++ ds).take q, ¬ (x.1 ≤ a + (s - 1) ∧ a ≤ x.1 + (x.2 - 1)))) (fun j _ => k - (intOf j).toNat)
              case atStart => exact ⟨0, Nat.zero_le _, rfl, by first | exact Below.refl _ _ | exact (Below.refl _ _).drew | exact U64.below_drewN' (Below.refl _ _) _, fun x hx => by simp at hx⟩
              case round =>
                obtain ⟨q, hq, rfl, HBi, HAp⟩ := hrel
                clear c2
                by_cases hqk : q < k
                · have hqL : q < (rs ++ ds).length := by omega
                  have hmem : (rs ++ ds)[q] ∈ (rs ++ ds).take k := List.mem_take_iff_getElem.2 ⟨q, by omega, rfl⟩
                  have hsan := HA.out.2.2.2 _ hmem
                  have HOq := HOv.out _ hmem
                  have HTk : Hid ((rs ++ ds).take (q + 1) = (rs ++ ds).take q ++ [(rs ++ ds)[q]]) := List.take_succ_eq_append_getElem hqL
                  obtain ⟨_, _, e, _, _, _, _, h5⟩ := HA.out.2.1.below HBi.out (Nat.le_refl _)
                  simp only [Value.slice.injEq] at e
                  obtain ⟨e1', hzz, rfl⟩ := e
                  clear hzz
                  have k0 := h5 k hkL
                  obtain ⟨g', off', e', c0, c1⟩ := h5 q hqL
                  rw [← e1'] at e'
                  cases e'
                  clear h5 k0 e1'
                  have hdd0 : wr.cell? ⟨g, off + k * 2, none⟩ = some (.int .u64 a) := (HBi.out.cell (World.block_lt_of_cell? wA _ d0)).trans d0
                  have hdd1 : wr.cell? ⟨g, off + k * 2 + 1, none⟩ = some (.int .u64 s) := (HBi.out.cell (World.block_lt_of_cell? wA _ d1)).trans d1
                  obtain ⟨b, hb⟩ : ∃ b, (rs ++ ds)[q].1 = b := ⟨_, rfl⟩
                  obtain ⟨u, hu⟩ : ∃ u, (rs ++ ds)[q].2 = u := ⟨_, rfl⟩
                  rw [hb] at c0 hsan HOq
                  rw [hu] at c1 hsan HOq
                  have HOq2 : Hid (b ≤ a + (s - 1) ∧ a ≤ b + (u - 1) → refW rs ds = 35) := HOq
                  have HTq : Hid (¬ (b ≤ a + (s - 1) ∧ a ≤ b + (u - 1)) → ∀ x ∈ (rs ++ ds).take (q + 1), ¬ (x.1 ≤ a + (s - 1) ∧ a ≤ x.1 + (x.2 - 1))) := fun hn x hx => by
                    rw [HTk.out] at hx
                    rcases List.mem_append.1 hx with hx | hx
                    · exact HAp.out x hx
                    · rw [List.mem_singleton.1 hx, hb, hu]; exact hn
                  clear HOq hb hu hmem HTk
                  obtain ⟨b0, b1, b2⟩ := hsan
                  have ji : (q : Int) < (nl : Int) := by omega
                  have jk : (k : Int) < (nl : Int) := by omega
                  have HCl : Hid (∀ W, Below wr.heap.size wr W → Calls Tryz.prog 45 #[.agg #[.int .u64 a, .int .u64 s], .agg #[.int .u64 b, .int .u64 u]] W fun e w' => e = .returned (.bool (apartB a s b u)) ∧ (w'.cell? ⟨g, off + k * 2, none⟩ = some (.int .u64 a) ∧ w'.cell? ⟨g, off + k * 2 + 1, none⟩ = some (.int .u64 s) ∧ w'.cell? ⟨g, off + q * 2, none⟩ = some (.int .u64 b) ∧ w'.cell? ⟨g, off + q * 2 + 1, none⟩ = some (.int .u64 u)) ∧ Hid (Below wr.heap.size wr w')) := fun W hW => by
                    refine (apart_any W ⟨f0, f2, f4⟩ ⟨b0, by omega, b2⟩).mono ?_
                    rintro e w' ⟨rfl, hb⟩
                    have hb' := hW.trans (hb.out.mono hW.size)
                    exact ⟨rfl, ⟨(hb'.cell (World.block_lt_of_cell? wr _ hdd0)).trans hdd0, (hb'.cell (World.block_lt_of_cell? wr _ hdd1)).trans hdd1, (hb'.cell (World.block_lt_of_cell? wr _ c0)).trans c0, (hb'.cell (World.block_lt_of_cell? wr _ c1)).trans c1⟩, hb'⟩
                  have HBd : Hid (Below wr.heap.size wr wr.drew) := (Below.refl _ _).drew
                  by_cases hov : b ≤ a + (s - 1) ∧ a ≤ b + (u - 1)
                  · have HE : Hid (refW rs ds = 35) := HOq2.out hov
                    have hap : apartB a s b u = false := decide_eq_false (by omega)
                    rw [hap] at HCl
                    clear HOq2 HTq hap hov
                    go_wp2_with fail
                    go_region_held3 (fun w' => w'.cell? ⟨g, off + k * 2, none⟩ = some (.int .u64 a) ∧ w'.cell? ⟨g, off + k * 2 + 1, none⟩ = some (.int .u64 s) ∧ w'.cell? ⟨g, off + q * 2, none⟩ = some (.int .u64 b) ∧ w'.cell? ⟨g, off + q * 2 + 1, none⟩ = some (.int .u64 u)) (go_keep) (first | (go_at_call 45; refine (HCl.out _ HBd.out).mono ?_; rintro e w3 ⟨rfl, ⟨m0, m1, m2, m3⟩, HB3⟩))
                    go_wp2_with fail
                    go_ret
                    exact ⟨by rw [HE.out]; rfl, HBe.out.trans ((HBi.out.trans (HB3.out.mono HBi.out.size)).mono HBe.out.size)⟩
                  · have HN2 := Lib.hid (HTq.out hov)
                    have hap : apartB a s b u = true := decide_eq_true (by omega)
                    rw [hap] at HCl
                    clear HOq2 HTq hap hov
                    go_wp2_with fail
                    go_region_held3 (fun w' => w'.cell? ⟨g, off + k * 2, none⟩ = some (.int .u64 a) ∧ w'.cell? ⟨g, off + k * 2 + 1, none⟩ = some (.int .u64 s) ∧ w'.cell? ⟨g, off + q * 2, none⟩ = some (.int .u64 b) ∧ w'.cell? ⟨g, off + q * 2 + 1, none⟩ = some (.int .u64 u)) (go_keep) (first | (go_at_call 45; refine (HCl.out _ HBd.out).mono ?_; rintro e w3 ⟨rfl, ⟨m0, m1, m2, m3⟩, HB3⟩))
                    go_wp2_with fail
                    go_roundw
                    case rel => exact ⟨q + 1, by omega, by go_num, HBi.out.trans (HB3.out.mono HBi.out.size), HN2.out⟩
                    case measure => simp [intOf]; omega
                · have hdd1 : wr.cell? ⟨g, off + k * 2 + 1, none⟩ = some (.int .u64 s) := (HBi.out.cell (World.block_lt_of_cell? wA _ d1)).trans d1
                  obtain rfl : q = k := by omega
                  go_wp2_with fail
                  go_roundw
                  case rel => exact ⟨q + 1, by omega, by go_num, by rw [HSm2.out], HFin.out _ HBi.out HAp.out⟩
                  case measure => simp [intOf]; omega
            · have hwd : decide ((rs.length : Int) ≤ (k : Int)) = true := decide_eq_true (by omega)
              have HSm2 : Hid (smR (rs.take (k + 1)) = t) := by have := HSm.out; rw [if_neg hw] at this; exact this
              have hms := HMs.out hw
              clear HMs HSm
              go_wp2_with fail
              go_quiet (fail)
              go_wp2_with fail
              go_loopw [7] (fun j wi => ∃ q : Nat, q ≤ k ∧ j = .int .i64 (q : Int) ∧ Hid (Below wA.heap.size wA wi) ∧ Hid (∀ x ∈ (rs ++ ds).take q, ¬ (x.1 ≤ a + (s - 1) ∧ a ≤ x.1 + (x.2 - 1)))) (fun j _ => k - (intOf j).toNat)
              case atStart => exact ⟨0, Nat.zero_le _, rfl, by first | exact Below.refl _ _ | exact (Below.refl _ _).drew | exact U64.below_drewN' (Below.refl _ _) _, fun x hx => by simp at hx⟩
              case round =>
                obtain ⟨q, hq, rfl, HBi, HAp⟩ := hrel
                clear c2
                by_cases hqk : q < k
                · have hqL : q < (rs ++ ds).length := by omega
                  have hmem : (rs ++ ds)[q] ∈ (rs ++ ds).take k := List.mem_take_iff_getElem.2 ⟨q, by omega, rfl⟩
                  have hsan := HA.out.2.2.2 _ hmem
                  have HOq := HOv.out _ hmem
                  have HTk : Hid ((rs ++ ds).take (q + 1) = (rs ++ ds).take q ++ [(rs ++ ds)[q]]) := List.take_succ_eq_append_getElem hqL
                  obtain ⟨_, _, e, _, _, _, _, h5⟩ := HA.out.2.1.below HBi.out (Nat.le_refl _)
                  simp only [Value.slice.injEq] at e
                  obtain ⟨e1', hzz, rfl⟩ := e
                  clear hzz
                  have k0 := h5 k hkL
                  obtain ⟨g', off', e', c0, c1⟩ := h5 q hqL
                  rw [← e1'] at e'
                  cases e'
                  clear h5 k0 e1'
                  have hdd0 : wr.cell? ⟨g, off + k * 2, none⟩ = some (.int .u64 a) := (HBi.out.cell (World.block_lt_of_cell? wA _ d0)).trans d0
                  have hdd1 : wr.cell? ⟨g, off + k * 2 + 1, none⟩ = some (.int .u64 s) := (HBi.out.cell (World.block_lt_of_cell? wA _ d1)).trans d1
                  obtain ⟨b, hb⟩ : ∃ b, (rs ++ ds)[q].1 = b := ⟨_, rfl⟩
                  obtain ⟨u, hu⟩ : ∃ u, (rs ++ ds)[q].2 = u := ⟨_, rfl⟩
                  rw [hb] at c0 hsan HOq
                  rw [hu] at c1 hsan HOq
                  have HOq2 : Hid (b ≤ a + (s - 1) ∧ a ≤ b + (u - 1) → refW rs ds = 35) := HOq
                  have HTq : Hid (¬ (b ≤ a + (s - 1) ∧ a ≤ b + (u - 1)) → ∀ x ∈ (rs ++ ds).take (q + 1), ¬ (x.1 ≤ a + (s - 1) ∧ a ≤ x.1 + (x.2 - 1))) := fun hn x hx => by
                    rw [HTk.out] at hx
                    rcases List.mem_append.1 hx with hx | hx
                    · exact HAp.out x hx
                    · rw [List.mem_singleton.1 hx, hb, hu]; exact hn
                  clear HOq hb hu hmem HTk
                  obtain ⟨b0, b1, b2⟩ := hsan
                  have ji : (q : Int) < (nl : Int) := by omega
                  have jk : (k : Int) < (nl : Int) := by omega
                  have HCl : Hid (∀ W, Below wr.heap.size wr W → Calls Tryz.prog 45 #[.agg #[.int .u64 a, .int .u64 s], .agg #[.int .u64 b, .int .u64 u]] W fun e w' => e = .returned (.bool (apartB a s b u)) ∧ (w'.cell? ⟨g, off + k * 2, none⟩ = some (.int .u64 a) ∧ w'.cell? ⟨g, off + k * 2 + 1, none⟩ = some (.int .u64 s) ∧ w'.cell? ⟨g, off + q * 2, none⟩ = some (.int .u64 b) ∧ w'.cell? ⟨g, off + q * 2 + 1, none⟩ = some (.int .u64 u)) ∧ Hid (Below wr.heap.size wr w')) := fun W hW => by
                    refine (apart_any W ⟨f0, f2, f4⟩ ⟨b0, by omega, b2⟩).mono ?_
                    rintro e w' ⟨rfl, hb⟩
                    have hb' := hW.trans (hb.out.mono hW.size)
                    exact ⟨rfl, ⟨(hb'.cell (World.block_lt_of_cell? wr _ hdd0)).trans hdd0, (hb'.cell (World.block_lt_of_cell? wr _ hdd1)).trans hdd1, (hb'.cell (World.block_lt_of_cell? wr _ c0)).trans c0, (hb'.cell (World.block_lt_of_cell? wr _ c1)).trans c1⟩, hb'⟩
                  have HBd : Hid (Below wr.heap.size wr wr.drew) := (Below.refl _ _).drew
                  by_cases hov : b ≤ a + (s - 1) ∧ a ≤ b + (u - 1)
                  · have HE : Hid (refW rs ds = 35) := HOq2.out hov
                    have hap : apartB a s b u = false := decide_eq_false (by omega)
                    rw [hap] at HCl
                    clear HOq2 HTq hap hov
                    go_wp2_with fail
                    go_region_held3 (fun w' => w'.cell? ⟨g, off + k * 2, none⟩ = some (.int .u64 a) ∧ w'.cell? ⟨g, off + k * 2 + 1, none⟩ = some (.int .u64 s) ∧ w'.cell? ⟨g, off + q * 2, none⟩ = some (.int .u64 b) ∧ w'.cell? ⟨g, off + q * 2 + 1, none⟩ = some (.int .u64 u)) (go_keep) (first | (go_at_call 45; refine (HCl.out _ HBd.out).mono ?_; rintro e w3 ⟨rfl, ⟨m0, m1, m2, m3⟩, HB3⟩))
                    go_wp2_with fail
                    go_ret
                    exact ⟨by rw [HE.out]; rfl, HBe.out.trans ((HBi.out.trans (HB3.out.mono HBi.out.size)).mono HBe.out.size)⟩
                  · have HN2 := Lib.hid (HTq.out hov)
                    have hap : apartB a s b u = true := decide_eq_true (by omega)
                    rw [hap] at HCl
                    clear HOq2 HTq hap hov
                    go_wp2_with fail
                    go_region_held3 (fun w' => w'.cell? ⟨g, off + k * 2, none⟩ = some (.int .u64 a) ∧ w'.cell? ⟨g, off + k * 2 + 1, none⟩ = some (.int .u64 s) ∧ w'.cell? ⟨g, off + q * 2, none⟩ = some (.int .u64 b) ∧ w'.cell? ⟨g, off + q * 2 + 1, none⟩ = some (.int .u64 u)) (go_keep) (first | (go_at_call 45; refine (HCl.out _ HBd.out).mono ?_; rintro e w3 ⟨rfl, ⟨m0, m1, m2, m3⟩, HB3⟩))
                    go_wp2_with fail
                    go_roundw
                    case rel => exact ⟨q + 1, by omega, by go_num, HBi.out.trans (HB3.out.mono HBi.out.size), HN2.out⟩
                    case measure => simp [intOf]; omega
                · have hdd1 : wr.cell? ⟨g, off + k * 2 + 1, none⟩ = some (.int .u64 s) := (HBi.out.cell (World.block_lt_of_cell? wA _ d1)).trans d1
                  obtain rfl : q = k := by omega
                  go_wp2_with fail
                  go_roundw
                  case rel => exact ⟨q + 1, by omega, by go_num, by rw [HSm2.out], HFin.out _ HBi.out HAp.out⟩
                  case measure => simp [intOf]; omega
        · have HE : Hid (refW rs ds = 33) := HNo.out 33 (refuse_align HC.out c2) (by decide)
          clear HNo HNx HSm HC
          by_cases hw : k < rs.length
          · have hwd : decide ((rs.length : Int) ≤ (k : Int)) = false := decide_eq_false (by omega)
            clear HMs
            go_wp2_with fail
            go_ret
            exact ⟨by rw [HE.out]; rfl, HBe.out⟩
          · have hwd : decide ((rs.length : Int) ≤ (k : Int)) = true := decide_eq_true (by omega)
            have hms := HMs.out hw
            clear HMs
            go_wp2_with fail
            go_ret
            exact ⟨by rw [HE.out]; rfl, HBe.out⟩
    · obtain rfl : k = nl := by omega
      have HE : Hid (refW rs ds = if 67108864 < smR rs then 36 else 0) := by
        have := HA.out
        rw [HN.out] at this
        exact this.last HL.out
      have HT : Hid (smR (rs.take k) = smR rs) := by
        show _ = _
        rw [List.take_of_length_le (by have := HN.out; rw [List.length_append] at this; omega)]
      generalize smR (rs.take k) = t at *
      have HBe : Hid (Below w.heap.size w wr) := HBw.out.trans (HA.out.1.mono (Nat.le_of_lt HZ.out))
      by_cases hm : 67108864 < t
      · go_wp2_with fail
        go_ret
        exact ⟨by rw [HE.out, if_pos (by rw [← HT.out]; exact hm)]; rfl, HBe.out⟩
      · go_wp2_with fail
        go_ret
        exact ⟨by rw [HE.out, if_neg (by rw [← HT.out]; omega)]; rfl, HBe.out⟩
end Go.Proofs.YtddgoncbdlhhhaaGreat
