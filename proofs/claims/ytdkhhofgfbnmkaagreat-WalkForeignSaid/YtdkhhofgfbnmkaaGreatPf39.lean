import Derived.Test.YtdkhhofgfbnmkaaGreatPf36
import Derived.Test.YtdkhhofgfbnmkaaGreatPf37
import Derived.Test.YtdkhhofgfbnmkaaGreatPf38
import Derived.Deep.AppendSrc
import Derived.Deep.RegionHeld3
import Derived.Lib.Hide
import Derived.Deep.DeepCutAuto
import Derived.Deep.CutBlock
import Derived.BigRegion
import Derived.Deep.CutRange
/- The document's own Leaves under a table: a round. Own work. -/
namespace Go.Proofs.YtdkhhofgfbnmkaaGreat
open Go.RowKit Go.Maps Go.Proofs.YtdkhhofgfbnmkaaGreat.Sp Wk Lv
namespace Lv
theorem step_abs {f : Nat → Nat → Ent × Int} {deep : Nat → Nat → Nat → St (List Slt) → St (List Slt)} {fr virt lev i : Nat} {t : St (List Slt)} (h : (f (fr + 8 * i) lev).2 = 41) : stepS (lkL f) ydL ctL deep fr virt lev i t = t := by
  unfold stepS lkL
  rw [if_pos h]
theorem step_tab {f : Nat → Nat → Ent × Int} {deep : Nat → Nat → Nat → St (List Slt) → St (List Slt)} {fr virt lev i : Nat} {t : St (List Slt)} {a : Nat} {e : Bool × Bool × Bool} {k : Int} (hf : f (fr + 8 * i) lev = ((a, true, e), k)) (h : k ≠ 41) : stepS (lkL f) ydL ctL deep fr virt lev i t = if 1 < t.left then deep a (virt + i * rch lev) (lev + 1) { s := t.s, left := t.left - 1, go := decide (1 < t.left) } else { s := t.s, left := t.left - 1, go := decide (1 < t.left) } := by
  unfold stepS lkL
  rw [hf, if_neg h]
  unfold visitS slotS
  simp only [if_true, Bool.and_true, decide_eq_true_eq]
theorem step_lf {f : Nat → Nat → Ent × Int} {deep : Nat → Nat → Nat → St (List Slt) → St (List Slt)} {fr virt lev i : Nat} {t : St (List Slt)} {a : Nat} {e : Bool × Bool × Bool} {k : Int} (hf : f (fr + 8 * i) lev = ((a, false, e), k)) (h : k ≠ 41) : stepS (lkL f) ydL ctL deep fr virt lev i t = { s := t.s ++ [(virt + i * rch lev, lev, (a, false, e), k)], left := t.left - 1, go := decide (1 < t.left) } := by
  unfold stepS lkL
  rw [hf, if_neg h]
  unfold visitS slotS
  simp [ydL, ctL]
end Lv
theorem ent2_tb {z : Nat} {a : Nat} {tb : Bool} {e : Bool × Bool × Bool} {k : Int} (h : entB z 2 = ((a, tb, e), k)) : tb = false := by
  unfold entB at h
  split at h
  · cases h; rfl
  · split at h
    · cases h; rfl
    · split at h
      · injection h with h1 h2
        injection h1 with h3 h4
        injection h4 with h5 h6
        rw [← h5]
        rfl
      · cases h; rfl
/-- append, under a name of its own -/
noncomputable def appN (ty : TypeId) (args : Array Value) : Sem Next := do pure (.value (← Builtin.append_ #[116, 116] ty args))
theorem appN_eq (ty : TypeId) (cs : Array Bool) (args : Array Value) : builtin .append #[116, 116] ty cs args = appN ty args := rfl
theorem appN_run {ty : TypeId} {args : Array Value} {w w' : World} {v : Value} (h : (Builtin.append_ #[116, 116] ty args).run Tryz.prog w = .ok v w') : (appN ty args).run Tryz.prog w = .ok (.value v) w' := by
  unfold appN
  simp only [Sem.run_bind, Sem.run_pure, h, Result.andThen_ok]
attribute [local go_sem ↓ high] appN_eq
theorem grown_undrew {w w' : World} {r : Option Nat} (h : w.drew.grownBy w' r) : w.grownBy w' r := ⟨h.os, h.tape, h.output, h.size, h.block⟩
theorem box_grown {w w' : World} {base g : Nat} {x : Ent} {v : Value} {ps : List Slt} (hx : BoxE w g x) (ho : OwnTd w base v ps) (h : w.grownBy w' v.ownBlock) : BoxE w' g x := by
  refine (h.block g hx.lt (fun e => ?_)).trans hx
  obtain ⟨_, _, _, _, _, hf⟩ := ho.form
  obtain ⟨_, cur, h2⟩ := hf g e.symm
  rw [show w.heap[g]? = _ from hx] at h2
  cases h2
theorem lv_facts {lv ea : Nat} (h : lv = 0 ∧ ea = 262144 ∨ lv = 1 ∧ ea = 512 ∨ lv = 2 ∧ ea = 1) : lv ≤ 2 ∧ rch lv = 4096 * ea ∧ pgs lv = ea := by
  rcases h with ⟨rfl, rfl⟩ | ⟨rfl, rfl⟩ | ⟨rfl, rfl⟩ <;> decide
/-- what the document's Leaves asks of what it keeps -/
structure UnEnv (f : Nat → Nat → Ent × Int) (gw v base Q : Nat) (U : St (List Slt) → World → Prop) : Prop where
  go : ∀ T W, U T W → T.go = decide (0 < T.left)
  len : ∀ T W, U T W → T.s.length + T.left ≤ Q
  left : ∀ T W, U T W → W.cell? ⟨gw, 1, none⟩ = some (.int .i64 (T.left : Int)) ∧ W.frozen? ⟨gw, 1, none⟩ = false ∧ T.left ≤ 1099511627776
  set : ∀ T W, U T W → 0 < T.left → U { s := T.s, left := T.left - 1, go := decide (1 < T.left) } (W.setCell ⟨gw, 1, none⟩ (.int .i64 ((T.left - 1 : Nat) : Int)))
  below : ∀ T W W', U T W → Below W.heap.size W W' → U T W'
  look : ∀ T W (a : Nat), a ≤ 18446744073709551615 → U T W → Calls Tryz.prog 44 #[.pointer (some ⟨v, 0, none⟩), .int .u64 (a : Int)] W fun e w' => ∃ z b, e = .returned (.tuple #[.int .u64 ((z : Nat) : Int), .bool b]) ∧ z < 18446744073709551616 ∧ (b = true → ∀ l : Nat, l ≤ 2 → f a l = entB z (l : Int)) ∧ (b = false → ∀ l : Nat, l ≤ 2 → f a l = (no, 42)) ∧ U T w'
  row : ∀ T W, U T W → ∃ vt, W.cell? ⟨gw, 0, none⟩ = some vt ∧ OwnTd W base vt T.s ∧ base ≤ W.heap.size ∧ T.s.length ≤ 1099511627776
  told : ∀ T W W1 W2 vt v2 x, U T W → T.s.length + T.left + 1 ≤ Q → Below W.heap.size W W1 → W.cell? ⟨gw, 0, none⟩ = some vt → OwnTd W2 base v2 (T.s ++ [x]) → W1.grownBy W2 vt.ownBlock → U { s := T.s ++ [x], left := T.left, go := T.go } (W2.setCell ⟨gw, 0, none⟩ v2) ∧ W2.cell? ⟨gw, 0, none⟩ = some vt ∧ W2.frozen? ⟨gw, 0, none⟩ = false
set_option maxRecDepth 100000 in
set_option maxHeartbeats 4000000 in
theorem under_any {f : Nat → Nat → Ent × Int} {gw v base Q : Nat} {U : St (List Slt) → World → Prop} (E : UnEnv f gw v base Q U) {deep : Nat → Nat → Nat → St (List Slt) → St (List Slt)} {lv ea fr virt : Nat} (hlv : lv = 0 ∧ ea = 262144 ∨ lv = 1 ∧ ea = 512 ∨ lv = 2 ∧ ea = 1) (hfr : fr + 4096 ≤ 18446744073709551616) (hvt : virt + 512 * (4096 * ea) ≤ 549755813888)
    {t : St (List Slt)} {W : World} (hU : U t W) (hen : ∀ (e : Nat), e < 18446744073709551616 → ∀ l w, Calls Tryz.prog 46 #[.int .u64 (e : Int), .int .i64 l] w (EntPost w (entB e l)))
    (hdp : lv < 2 → ∀ (a b : Nat) T W, a + 4096 ≤ 18446744073709551616 → b + 4096 * ea ≤ 549755813888 → U T W → Calls Tryz.prog 77 #[.pointer (some ⟨gw, 0, none⟩), .pointer (some ⟨v, 0, none⟩), .int .u64 (a : Int), .int .i64 ((lv : Int) + 1), .int .u64 (b : Int)] W fun e w' => e = .returned (.tuple #[]) ∧ U (deep a b (lv + 1) T) w') :
    Calls Tryz.prog 77 #[.pointer (some ⟨gw, 0, none⟩), .pointer (some ⟨v, 0, none⟩), .int .u64 (fr : Int), .int .i64 (lv : Int), .int .u64 (virt : Int)] W fun e w' => e = .returned (.tuple #[]) ∧ U (tabN (lkL f) ydL ctL deep fr virt lv 512 t) w' := by
  have HE := Lib.hid E
  have HU := Lib.hid hU
  have HEN := Lib.hid hen
  have HDP := Lib.hid hdp
  clear E hU hen hdp
  go_enter Tryz.func77, Tryz.ntmps77
  go_upto_region 0 with fail
  go_cut [10] (fun y wx => y = .int .i64 (ea : Int) ∧ Hid (U t wx))
  case first =>
    have HA : Hid (U t (W.alloc (Obj.cells #[.int .i64 262144, .int .i64 512, .int .i64 1] 3))) := HE.out.below _ _ _ HU.out ((Below.refl _ _).alloc (Nat.le_refl _) _)
    rcases hlv with ⟨rfl, rfl⟩ | ⟨rfl, rfl⟩ | ⟨rfl, rfl⟩
    all_goals (
      go_wp2_with fail
      go_meet
      exact ⟨rfl, HA⟩)
  case rest =>
  obtain ⟨rfl, HU1⟩ := hcut
  clear HU
  rename_i Q1 K1 hK1
  refine hK1 _ _ ?_
  clear hK1
  clear K1
  go_wp2_with fail
  go_loopw [11] (fun iv wr => ∃ i : Nat, i ≤ 512 ∧ iv = .int .i64 (i : Int) ∧ Hid (U (tabN (lkL f) ydL ctL deep fr virt lv i t) wr)) (fun iv _ => 512 - (intOf iv).toNat)
  case atStart => exact ⟨0, Nat.zero_le _, rfl, HU1⟩
  case round =>
    obtain ⟨i, hi, rfl, HT⟩ := hrel
    obtain ⟨T, hT⟩ : ∃ T, T = tabN (lkL f) ydL ctL deep fr virt lv i t := ⟨_, rfl⟩
    rw [← hT] at HT
    have HTe := Lib.hid hT
    clear hT HU1
    obtain ⟨c1, c2, hlq⟩ := HE.out.left _ _ HT.out
    have hgo := HE.out.go _ _ HT.out
    by_cases hi5 : i < 512
    · have qi : (i : Int) < 512 := by omega
      by_cases hl : 0 < T.left
      · have hli : (0 : Int) < (T.left : Int) := by omega
        obtain ⟨at_, hat⟩ : ∃ at_ : Nat, at_ = virt + i * (4096 * ea) := ⟨_, rfl⟩
        have hab : at_ + 4096 * ea ≤ 549755813888 := by
          rcases hlv with ⟨_, rfl⟩ | ⟨_, rfl⟩ | ⟨_, rfl⟩ <;> omega
        go_upto_region 4 with fail
        go_cut [12] from 21 to 130 (fun y wx => y = .int .u64 (at_ : Int) ∧ wx = wr)
        case first =>
          clear HE HT HTe c1 c2 hlq hgo HEN HDP
          rcases hlv with ⟨_, rfl⟩ | ⟨_, rfl⟩ | ⟨_, rfl⟩
          all_goals
            go_wp2_with fail
            go_meet
            refine ⟨?_, rfl⟩
            congr 1
            omega
        case rest =>
        obtain ⟨rfl, rfl⟩ := hcut
        have HL := Lib.hid hl
        have HQ := Lib.hid hat
        have HQ2 := Lib.hid hab
        have HV := Lib.hid hvt
        have HLV := Lib.hid hlv
        have HC1 := Lib.hid c1
        have HC2 := Lib.hid c2
        clear hat hab hvt hlv c1 c2 hlq hgo hl hli
        go_upto_region 5 with fail
        go_cut [13, 14] from 21 to 130 (fun y1 y2 wx => ∃ (z : Nat) (b : Bool), y1 = .int .u64 (z : Int) ∧ y2 = .bool b ∧ z < 18446744073709551616 ∧ Hid ((b = true → ∀ l : Nat, l ≤ 2 → f (fr + 8 * i) l = entB z (l : Int)) ∧ (b = false → ∀ l : Nat, l ≤ 2 → f (fr + 8 * i) l = (no, 42))) ∧ Hid (U T wx))
        case first =>
          have HP : Hid (Calls Tryz.prog 44 #[.pointer (some ⟨v, 0, none⟩), .int .u64 ((fr : Int) + 8 * (i : Int))] wc fun e w' => ∃ z b, e = .returned (.tuple #[.int .u64 ((z : Nat) : Int), .bool b]) ∧ z < 18446744073709551616 ∧ (b = true → ∀ l : Nat, l ≤ 2 → f (fr + 8 * i) l = entB z (l : Int)) ∧ (b = false → ∀ l : Nat, l ≤ 2 → f (fr + 8 * i) l = (no, 42)) ∧ U T w') := by
            have := HE.out.look T wc (fr + 8 * i) (by omega) HT.out
            rw [show ((fr + 8 * i : Nat) : Int) = (fr : Int) + 8 * (i : Int) from by omega] at this
            exact this
          clear HE HT HTe HQ HQ2 HV HLV HC1 HC2
          go_wp2_with fail
          refine HP.out.mono ?_
          rintro e w1 ⟨z, b, rfl, hz, hb1, hb2, hU1⟩
          have HB1 := Lib.hid hb1
          have HB2 := Lib.hid hb2
          have HUU := Lib.hid hU1
          clear hb1 hb2 hU1 HP
          go_wp2_with fail
          go_meet
          exact ⟨z, b, rfl, rfl, hz, ⟨HB1.out, HB2.out⟩, HUU⟩
        case rest =>
        obtain ⟨z, b, rfl, rfl, hz, HB, HU2⟩ := hcut
        clear HT HC1 HC2
        go_upto_region 6 with fail
        go_cut [15, 16] from 21 to 130 (fun y1 y2 wx => ∃ (g a : Nat) (tb bg wt ex : Bool) (k : Int), y1 = .pointer (some ⟨g, 0, none⟩) ∧ y2 = .int .i64 k ∧ Hid (entB z (lv : Int) = ((a, tb, bg, wt, ex), k)) ∧ Hid (BoxE wx g (a, tb, bg, wt, ex)) ∧ Hid (U T wx) ∧ g ≠ gw)
        case first =>
          have HN : Hid (∀ w, Calls Tryz.prog 46 #[.int .u64 (z : Int), .int .i64 (lv : Int)] w (EntPost w (entB z (lv : Int)))) := fun w => HEN.out z hz (lv : Int) w
          obtain ⟨r, hr⟩ : ∃ r, r = entB z (lv : Int) := ⟨_, rfl⟩
          have HR := Lib.hid hr
          rw [← hr] at HN
          clear hr
          obtain ⟨⟨a, tb, bg, wt, ex⟩, k⟩ := r
          have HUB : Hid (∀ w', Below wc.heap.size wc w' → U T w' ∧ gw < w'.heap.size) := fun w' hb => by
            have := HE.out.below _ _ _ HU2.out hb
            exact ⟨this, World.block_lt_of_cell? _ _ (HE.out.left _ _ this).1⟩
          clear HE HU2 HTe HQ HQ2 HV HLV HEN HDP HB
          go_wp2_with fail
          refine (HN.out _).mono ?_
          rintro e w1 ⟨rfl, hb1⟩
          have HB1 := Lib.hid hb1
          dsimp only [EntV]
          clear hb1 HN
          go_wp2_with fail
          go_meet
          exact ⟨w1.heap.size, a, tb, bg, wt, ex, k, rfl, rfl, HR.out.symm, BoxE.new w1 (a, tb, bg, wt, ex), (HUB.out _ (HB1.out.alloc HB1.out.size _)).1, by have := (HUB.out _ HB1.out).2; omega⟩
        case rest =>
        obtain ⟨g, a, tb, bg, wt, ex, k, rfl, rfl, HR, HX, HU3, hgg⟩ := hcut
        clear HU2
        by_cases hA : b = true ∧ k = 41
        · obtain ⟨rfl, rfl⟩ := hA
          have HN : Hid (U (tabN (lkL f) ydL ctL deep fr virt lv (i + 1) t) wc) := by
            have h1 := HTe.out
            have h2 := HE.out.go _ _ HU3.out
            have h3 := HB.out.1 rfl lv (by rcases HLV.out with h | h | h <;> omega)
            show U _ wc
            rw [tabN_go (by rw [← h1, h2]; exact decide_eq_true HL.out), ← h1, step_abs (by rw [h3, HR.out])]
            exact HU3.out
          clear HE HU3 HTe HQ HQ2 HV HLV HEN HDP HB HR HX
          go_wp2_with fail
          exact ⟨⟨i + 1, by omega, by go_num, HN⟩, by simp [intOf]; omega⟩
        · obtain ⟨n1, hn1⟩ : ∃ n1 : Nat, (T.left : Int) - 1 = (n1 : Int) := ⟨T.left - 1, by have := HL.out; omega⟩
          have HN1 : Hid (n1 = T.left - 1) := by show _ = _; have := HL.out; omega
          obtain ⟨c1, c2, hlq⟩ := HE.out.left _ _ HU3.out
          have HU4 : Hid (U { s := T.s, left := n1, go := decide (1 < T.left) } (wc.setCell ⟨gw, 1, none⟩ (.int .i64 (n1 : Int)))) := by
            rw [HN1.out]
            exact HE.out.set _ _ HU3.out HL.out
          obtain ⟨W4, hW4⟩ : ∃ W4, wc.setCell ⟨gw, 1, none⟩ (.int .i64 (n1 : Int)) = W4 := ⟨_, rfl⟩
          have HX4 : Hid (BoxE W4 g (a, tb, bg, wt, ex)) := by
            have hk := (hW4 ▸ Keeps.setCell wc gw 1 (.int .i64 (n1 : Int)) : Keeps (fun k => k = gw) wc W4)
            exact (hk.block g HX.out.lt hgg).trans HX.out
          rw [hW4] at HU4
          have HLq : Hid (T.left ≤ 1099511627776) := hlq
          have HSl : Hid (T.s.length + n1 + 1 ≤ Q) := by show _ ≤ _; have := HE.out.len _ _ HU3.out; have := HN1.out; have := HL.out; omega
          have hG : Hid (tabN (lkL f) ydL ctL deep fr virt lv (i + 1) t = stepS (lkL f) ydL ctL deep fr virt lv i T) := by
            have h1 := HTe.out
            have h2 := HE.out.go _ _ HU3.out
            show _ = _
            rw [tabN_go (by rw [← h1, h2]; exact decide_eq_true HL.out), ← h1]
          have HLF := Lib.hid (lv_facts HLV.out)
          clear HX HU3 HTe HEN
          by_cases hB : b = true ∧ k = 0
          · obtain ⟨rfl, rfl⟩ := hB
            have HF : Hid (f (fr + 8 * i) lv = ((a, tb, bg, wt, ex), 0)) := by
              show _ = _
              rw [HB.out.1 rfl lv HLF.out.1, HR.out]
            have HAl := Lib.hid (ent_lt HR.out)
            have HT2 : Hid (tb = true → lv < 2) := fun h => by
              rcases HLV.out with ⟨rfl, _⟩ | ⟨rfl, _⟩ | ⟨rfl, _⟩
              · decide
              · decide
              · have := ent2_tb HR.out; rw [h] at this; cases this
            obtain ⟨x0, x1, x2, x3, x4⟩ := HX4.out.cells
            dsimp only at x0 x1 x2 x3 x4
            have hlq1 : n1 ≤ 1099511627776 := by have := HN1.out; have := HLq.out; omega
            clear HB HR
            cases tb
            · have HG2 : Hid (tabN (lkL f) ydL ctL deep fr virt lv (i + 1) t = { s := T.s ++ [(at_, lv, (a, false, bg, wt, ex), 0)], left := n1, go := decide (1 < T.left) }) := by
                show _ = _
                rw [hG.out, step_lf HF.out (by decide), HQ.out, HLF.out.2.1, HN1.out]
              clear hG HF HT2 HAl HDP
              go_upto_region 14 with fail
              clear c1 c2 hW4
              obtain ⟨vt, e0, hown, hbs, hln⟩ := HE.out.row _ _ HU4.out
              dsimp only at hown hln
              obtain ⟨va, vc, rfl, _, hvc, _⟩ := hown.form
              unfold maxLen at hvc
              have HO := Lib.hid hown
              have HBs := Lib.hid hbs
              have HLn := Lib.hid hln
              obtain ⟨n0, hn0⟩ : ∃ n0, n0 = T.s.length := ⟨_, rfl⟩
              rw [← hn0] at HO e0
              clear hown hbs hln hn0
              obtain ⟨Wb, hWb⟩ : ∃ Wb, W4.alloc (Obj.cells #[.int .u64 (at_ : Int), .int .u64 (a : Int), .int .i64 (ea : Int), .bool bg, .bool wt, .bool ex, .int .i64 0] 125) = Wb := ⟨_, rfl⟩
              have hbb : Below W4.heap.size W4 Wb := hWb ▸ (Below.refl _ _).alloc (Nat.le_refl _) _
              have HOb : Hid (OwnTd Wb base (.slice va n0 vc) T.s) := HO.out.keeps (Keeps.of_below (S := fun _ => False) hbb) (fun _ _ e => e)
              have HCb : Hid (∀ k, k < 7 → Wb.cell? ⟨W4.heap.size, k, none⟩ = (encTd (at_, lv, (a, false, bg, wt, ex), 0))[k]?) := fun k hk => by
                rw [← hWb, cell_of_row _ _ _ _ _ _ (heap_alloc_new W4 _)]
                have hp := HLF.out.2.2
                simp only [encTd, hp]
                match k, hk with
                | 0, _ => rfl
                | 1, _ => rfl
                | 2, _ => rfl
                | 3, _ => rfl
                | 4, _ => rfl
                | 5, _ => rfl
                | 6, _ => rfl
              have HXb : Hid (BoxE Wb g (a, false, bg, wt, ex)) := HX4.out.below hbb
              have HKb : Hid (Wb.cell? ⟨g, 0, none⟩ = some (.int .u64 (a : Int)) ∧ Wb.cell? ⟨g, 2, none⟩ = some (.bool bg) ∧ Wb.cell? ⟨g, 3, none⟩ = some (.bool wt) ∧ Wb.cell? ⟨g, 4, none⟩ = some (.bool ex) ∧ Wb.cell? ⟨gw, 0, none⟩ = some (.slice va n0 vc)) := by
                obtain ⟨y0, _, y2, y3, y4⟩ := HXb.out.cells
                exact ⟨y0, y2, y3, y4, (hbb.cell (p := ⟨gw, 0, none⟩) (World.block_lt_of_cell? _ _ e0)).trans e0⟩
              have HAd : Hid (∀ v2 w2, OwnTd w2 base v2 (T.s ++ [(at_, lv, (a, false, bg, wt, ex), 0)]) → Wb.drew.grownBy w2 (Value.slice va n0 vc).ownBlock → (U (tabN (lkL f) ydL ctL deep fr virt lv (i + 1) t) (w2.setCell ⟨gw, 0, none⟩ v2) ∧ w2.cell? ⟨gw, 0, none⟩ = some (.slice va n0 vc) ∧ w2.frozen? ⟨gw, 0, none⟩ = false) ∧ BoxE w2 g (a, false, bg, wt, ex)) := fun v2 w2 h1 h2 => by
                have := HE.out.told _ W4 Wb w2 _ v2 (at_, lv, (a, false, bg, wt, ex), 0) HU4.out HSl.out hbb e0 h1 (grown_undrew h2)
                rw [HG2.out]
                exact ⟨this, box_grown HXb.out HOb.out (grown_undrew h2)⟩
              have HBb : Hid (base ≤ Wb.heap.size) := Nat.le_trans HBs.out hbb.size
              clear hbb HO HBs HE HU4 HG2 HQ HQ2 HV HLV HX4 HLF HL HLq HN1 hn1 HXb x1
              obtain ⟨v2, w2, hr, ho, hg⟩ := run_appTd (cap := 1) 116 (show OwnTd Wb.drew base (.slice va n0 vc) T.s from HOb.out) (x := (at_, lv, (a, false, bg, wt, ex), 0)) (g := W4.heap.size) HCb.out HLn.out HBb.out
              obtain ⟨va2, vc2, hv2, _⟩ := ho.form
              generalize (T.s ++ [(at_, lv, (a, false, bg, wt, ex), 0)]).length = n2 at hv2
              subst hv2
              obtain ⟨⟨hu2, hc2, hf2⟩, hx2⟩ := HAd.out _ w2 ho hg
              have HU2 := Lib.hid hu2
              have hr := appN_run hr
              obtain ⟨y0, y2, y3, y4, y5⟩ := HKb.out
              clear hu2 ho hg hx2 HAd HCb HOb HKb
              go_region
              all_goals
                go_wp2_with fail
                exact ⟨⟨i + 1, by omega, by go_num, HU2⟩, by simp [intOf]; omega⟩
            · have HG2 : Hid (tabN (lkL f) ydL ctL deep fr virt lv (i + 1) t = if 1 < T.left then deep a at_ (lv + 1) { s := T.s, left := n1, go := decide (1 < T.left) } else { s := T.s, left := n1, go := decide (1 < T.left) }) := by
                show _ = _
                rw [hG.out, step_tab HF.out (by decide), HQ.out, HLF.out.2.1, HN1.out]
              have HD : Hid (Calls Tryz.prog 77 #[.pointer (some ⟨gw, 0, none⟩), .pointer (some ⟨v, 0, none⟩), .int .u64 (a : Int), .int .i64 ((lv : Int) + 1), .int .u64 (at_ : Int)] W4 fun e w' => e = .returned (.tuple #[]) ∧ U (deep a at_ (lv + 1) { s := T.s, left := n1, go := decide (1 < T.left) }) w') := HDP.out (HT2.out rfl) a at_ _ W4 (by have := HAl.out.1; dsimp only at this; omega) (by have := HQ2.out; omega) HU4.out
              clear hG HF HDP HAl HT2
              go_upto_region 11 with fail
              clear c1 c2 hW4
              obtain ⟨c1, c2, _⟩ := HE.out.left _ _ HU4.out
              dsimp only at c1
              by_cases h1 : 0 < n1
              · have h1i : (0 : Int) < (n1 : Int) := by omega
                have hll : (lv : Int) + 1 ≤ 3 := by have := HLF.out.1; omega
                have HN2 : Hid (∀ w', U (deep a at_ (lv + 1) { s := T.s, left := n1, go := decide (1 < T.left) }) w' → U (tabN (lkL f) ydL ctL deep fr virt lv (i + 1) t) w') := fun w' h => by
                  rw [HG2.out, if_pos (by have := HN1.out; omega)]
                  exact h
                clear HU4 HE HG2 HQ HQ2 HV HLV HX4 HLF
                go_wp2_with fail
                refine HD.out.mono ?_
                rintro e w5 ⟨rfl, hu5⟩
                have HU5 := Lib.hid (HN2.out _ hu5)
                clear hu5 HN2 HD
                go_wp2_with fail
                exact ⟨⟨i + 1, by omega, by go_num, HU5⟩, by simp [intOf]; omega⟩
              · have h1i : ¬ (0 : Int) < (n1 : Int) := by omega
                have HN2 : Hid (U (tabN (lkL f) ydL ctL deep fr virt lv (i + 1) t) W4) := by
                  rw [HG2.out, if_neg (by have := HN1.out; omega)]
                  exact HU4.out
                clear HU4 HE HG2 HQ HQ2 HV HLV HX4 HLF HD
                go_wp2_with fail
                exact ⟨⟨i + 1, by omega, by go_num, HN2⟩, by simp [intOf]; omega⟩
          · have HF : Hid (f (fr + 8 * i) lv = (no, 42)) := by
              show _ = _
              cases b with
              | false => exact HB.out.2 rfl lv HLF.out.1
              | true =>
                have h1 := HB.out.1 rfl lv HLF.out.1
                have h2 := ent_ok z HLF.out.1
                rw [HR.out] at h1 h2
                have h3 : k ≠ 0 := fun e => hB ⟨rfl, e⟩
                have h4 : k ≠ 41 := fun e => hA ⟨rfl, e⟩
                have h5 : k = 42 := by
                  have : k = 0 ∨ k = 41 ∨ k = 42 := h2.1
                  omega
                have h6 : (a, tb, bg, wt, ex) = no := h2.2.1 h3
                rw [h1, h6, h5]
            have HG2 : Hid (tabN (lkL f) ydL ctL deep fr virt lv (i + 1) t = { s := T.s ++ [(at_, lv, (0, false, false, false, false), 42)], left := n1, go := decide (1 < T.left) }) := by
              show _ = _
              rw [hG.out, step_lf (a := 0) (e := (false, false, false)) HF.out (by decide), HQ.out, HLF.out.2.1, HN1.out]
            clear hG HF HDP HB HR HX4
            obtain ⟨vt, e0, hown, hbs, hln⟩ := HE.out.row _ _ HU4.out
            dsimp only at hown hln
            obtain ⟨va, vc, rfl, _, hvc, _⟩ := hown.form
            unfold maxLen at hvc
            have HO := Lib.hid hown
            have HBs := Lib.hid hbs
            have HLn := Lib.hid hln
            obtain ⟨n0, hn0⟩ : ∃ n0, n0 = T.s.length := ⟨_, rfl⟩
            rw [← hn0] at HO e0
            clear hown hbs hln hn0
            obtain ⟨Wb, hWb⟩ : ∃ Wb, W4.alloc (Obj.cells #[.int .u64 (at_ : Int), .int .u64 0, .int .i64 (ea : Int), .bool false, .bool false, .bool false, .int .i64 42] 125) = Wb := ⟨_, rfl⟩
            have hbb : Below W4.heap.size W4 Wb := hWb ▸ (Below.refl _ _).alloc (Nat.le_refl _) _
            have HOb : Hid (OwnTd Wb base (.slice va n0 vc) T.s) := HO.out.keeps (Keeps.of_below (S := fun _ => False) hbb) (fun _ _ e => e)
            have HCb : Hid (∀ k, k < 7 → Wb.cell? ⟨W4.heap.size, k, none⟩ = (encTd (at_, lv, (0, false, false, false, false), 42))[k]?) := fun k hk => by
              rw [← hWb, cell_of_row _ _ _ _ _ _ (heap_alloc_new W4 _)]
              have hp := HLF.out.2.2
              simp only [encTd, hp]
              match k, hk with
              | 0, _ => rfl
              | 1, _ => rfl
              | 2, _ => rfl
              | 3, _ => rfl
              | 4, _ => rfl
              | 5, _ => rfl
              | 6, _ => rfl
            obtain ⟨v2, w2, hr, ho, hg⟩ := run_appTd (cap := 1) 116 HOb.out (x := (at_, lv, (0, false, false, false, false), 42)) (g := W4.heap.size) HCb.out HLn.out (Nat.le_trans HBs.out hbb.size)
            obtain ⟨va2, vc2, hv2, _⟩ := ho.form
            generalize (T.s ++ [(at_, lv, (0, false, false, false, false), 42)]).length = n2 at hv2
            subst hv2
            have hu2 := HE.out.told _ W4 Wb w2 _ _ (at_, lv, (0, false, false, false, false), 42) HU4.out HSl.out hbb e0 ho hg
            dsimp only at hu2
            rw [← HG2.out] at hu2
            obtain ⟨hu2, hc2, hf2⟩ := hu2
            have HU2 := Lib.hid hu2
            have hr := appN_run hr
            have hk41 : b = true → (k == 41) = false := fun h => by simp; exact fun e => hA ⟨h, e⟩
            have hk0 : b = true → (k != 0) = true := fun h => by simp; exact fun e => hB ⟨h, e⟩
            clear hu2 ho hg HCb HOb hbb HO HBs HE HU4 HG2 HQ HQ2 HV HLV HLF HL HLq HN1 hA hB
            cases b
            · clear hk41 hk0
              go_wp2_with fail
              exact ⟨⟨i + 1, by omega, by go_num, HU2⟩, by simp [intOf]; omega⟩
            · have hk41 := hk41 rfl
              have hk0 := hk0 rfl
              go_wp2_with fail
              exact ⟨⟨i + 1, by omega, by go_num, HU2⟩, by simp [intOf]; omega⟩
      · have hli : ¬ (0 : Int) < (T.left : Int) := by omega
        have HN : Hid (U (tabN (lkL f) ydL ctL deep fr virt lv 512 t) wr) := by
          have h1 := HTe.out
          show U _ wr
          rw [tabN_end (by rw [← h1, hgo]; exact decide_eq_false hl) hi, ← h1]
          exact HT.out
        clear HE HT HTe HEN HDP hlv hvt hgo
        go_wp2_with fail
        go_end0
        exact ⟨rfl, HN.out⟩
    · have qi : ¬ (i : Int) < 512 := by omega
      have HN : Hid (U (tabN (lkL f) ydL ctL deep fr virt lv 512 t) wr) := by
        have h1 := HTe.out
        obtain rfl : i = 512 := by omega
        show U _ wr
        rw [← h1]
        exact HT.out
      clear HE HT HTe HEN HDP hlv hvt hgo
      go_wp2_with fail
      go_end0
      exact ⟨rfl, HN.out⟩
end Go.Proofs.YtdkhhofgfbnmkaaGreat
