/- Lanes: byDeadline. Own work. -/
import Derived.Test.YtkhlkbgolonkkaaLnBdM
import Derived.Test.YtkhlkbgolonkkaaLnSort
namespace Go.Proofs.Ytkhlkbgolonkkaa
open Go.RowKit
set_option linter.unusedVariables false
/-- how long a slice is -/
def lenV : Value → Nat
  | .slice _ n _ => n
  | _ => 0
theorem bd_start {w w2 : World} {u : Value} {js : List J4} (ho : OwnJ w2 (w.heap.size + 2) u js) (hb : Below (w.heap.size + 2) ((w.alloc (.cells #[.slice none 0 0] 70)).alloc (.cells #[.slice none 0 0] 83)) w2) : Bd w w2 (.slice none 0 0) (.slice none 0 0) u [] js [] := by
  have h0 : Below w.heap.size w ((w.alloc (.cells #[.slice none 0 0] 70)).alloc (.cells #[.slice none 0 0] 83)) := ((Below.refl _ _).alloc (Nat.le_refl _) _).alloc (by simp) _
  have e1 : ((w.alloc (.cells #[.slice none 0 0] 70)).alloc (.cells #[.slice none 0 0] 83)).heap[w.heap.size]? = some (.cells #[.slice none 0 0] 70 (0, 0)) := by
    rw [Below.heap_alloc _ _ _ (by simp)]
    exact Array.getElem?_push_size (xs := w.heap)
  have e2 : ((w.alloc (.cells #[.slice none 0 0] 70)).alloc (.cells #[.slice none 0 0] 83)).heap[w.heap.size + 1]? = some (.cells #[.slice none 0 0] 83 (0, 0)) := by
    have es : (w.alloc (.cells #[.slice none 0 0] 70)).heap.size = w.heap.size + 1 := by simp
    rw [← es]
    exact Array.getElem?_push_size (xs := (w.alloc (.cells #[.slice none 0 0] 70)).heap)
  refine ⟨h0.trans (hb.mono (by omega)), ⟨?_, OwnS.nil _ _, Nat.le_refl _, (fun e => by cases e)⟩, fun _ => rfl, ⟨?_, OwnJ.nil _ _, by omega, (fun e => by cases e)⟩, ho.rd, (fun e => by cases e), (fun e => by cases e), (fun k e => by cases e), fun k e => ?_⟩
  · rw [hb.block _ (by omega)]; exact e1
  · rw [hb.block _ (by omega)]; exact e2
  · have := ho.lt k e
    exact ⟨this.2, by omega, by omega, (fun e => by cases e), (fun e => by cases e)⟩
set_option maxRecDepth 100000 in
set_option maxHeartbeats 4000000 in
theorem byd_any {w : World} {v : Value} {xs : List R4} {m : Nat} (h : Rn w v xs) (hm : m ≤ 65536) (hx : NeedOk m xs) (hc : (allJ m 0 xs).length ≤ 65536) :
    Calls Try.prog 27 #[.int .i64 (m : Int), v] w fun e w' => ∃ u, e = .returned u ∧ ∃ ws cs rs, OwnS w' w.heap.size u rs ∧ Ed m xs ws cs rs ∧ endF rs = (m : Int) ∧ Below w.heap.size w w' := by
  have HR := Lib.hid h
  have HJ : Hid (Calls Try.prog 37 #[.int .i64 (m : Int), v] ((w.alloc (.cells #[.slice none 0 0] 70)).alloc (.cells #[.slice none 0 0] 83)) fun e w' => ∃ u js, e = .returned u ∧ Bd w w' (.slice none 0 0) (.slice none 0 0) u [] js [] ∧ Ed m xs [] js []) := by
    have hb0 : Below w.heap.size w ((w.alloc (.cells #[.slice none 0 0] 70)).alloc (.cells #[.slice none 0 0] 83)) := ((Below.refl _ _).alloc (Nat.le_refl _) _).alloc (by simp) _
    refine (jobs_any (HR.out.below hb0) hm (fun r hr => by have := hx r hr; omega) hc (fun W base u zs ho hl => sortJ_any ho (by omega))).mono ?_
    rintro e w' ⟨u, js, rfl, ho, hp, hs, hb⟩
    have es : ((w.alloc (.cells #[.slice none 0 0] 70)).alloc (.cells #[.slice none 0 0] 83)).heap.size = w.heap.size + 2 := by simp
    rw [es] at ho hb
    exact ⟨u, js, rfl, bd_start ho hb, .start js hp hs⟩
  have HI : Hid (∀ ws cs rs, Ed m xs ws cs rs → EdI m xs ws cs rs) := fun ws cs rs h => ed_inv hx hc h
  have HM : Hid (m ≤ 65536) := hm
  obtain ⟨ao, cap, rfl, h1, h2, h3, _⟩ := h
  unfold maxLen at h2
  obtain ⟨n, hn⟩ : ∃ n, xs.length = n := ⟨_, rfl⟩
  have HN := Lib.hid hn
  rw [hn] at h1 HJ ⊢
  clear hn h3 hx hc
  obtain ⟨B, hB⟩ : ∃ B, B = w.heap.size := ⟨_, rfl⟩
  go_enter Try.func27, Try.ntmps27
  go_wp2_with fail
  refine HJ.out.mono ?_
  rintro e w2 ⟨u0, js, rfl, hbd, hed⟩
  have HB0 : Hid (Bd w w2 (.slice none 0 0) (.slice none 0 0) u0 [] js []) := hbd
  have HE0 : Hid (Ed m xs [] js []) := hed
  clear hbd hed HJ
  go_wp2_with fail
  go_loopw [7, 8] (fun cv nv wr => ∃ qv rv ws cs rs, nv = .int .i64 (endF rs) ∧ Hid (Bd w wr qv rv cv ws cs rs) ∧ Hid (Ed m xs ws cs rs)) (fun _ nv _ => m - (intOf nv).toNat)
  case atStart => exact ⟨_, _, _, _, _, rfl, HB0, HE0⟩
  case round =>
    clear HB0 HE0
    obtain ⟨qv, rv, ws, cs, rs, rfl, HB, HE⟩ := hrel
    have HVi := Lib.hid (HI.out _ _ _ HE.out)
    obtain ⟨now, hnow⟩ : ∃ now, endF rs = now := ⟨_, rfl⟩
    rw [hnow]
    have HNow := Lib.hid hnow
    have now0 : 0 ≤ now := by rw [← hnow]; exact HVi.out.e0
    have now1 : now ≤ (m : Int) := by rw [← hnow]; exact HVi.out.e1
    clear hnow
    by_cases hlt : now < (m : Int)
    · go_wp2_with fail
      go_loopw [7] (fun cv wr => ∃ qv ws cs, Hid (Bd w wr qv rv cv ws cs rs) ∧ Hid (Ed m xs ws cs rs)) (fun cv _ => lenV cv)
      case atStart => exact ⟨_, _, _, HB, HE⟩
      case round =>
        clear HB HE HVi
        obtain ⟨qv, ws, cs, HB, HE⟩ := hrel
        have HVi := Lib.hid (HI.out _ _ _ HE.out)
        cases cs with
        | nil =>
          obtain ⟨ca, cc, hcv⟩ := HB.out.com.none
          subst hcv
          have HD : Hid (dueN (endF rs) []) := trivial
          have HX : Hid (endF rs < (m : Int) ∧ (m : Int) ≤ (m : Int)) := by
            have h5 := nextF_gt HVi.out HD.out (by rw [HNow.out]; exact hlt)
            exact ⟨h5.1, h5.2.1⟩
          have nx1 : now < (m : Int) := by have := HX.out.1; rw [HNow.out] at this; exact this
          have nx2 : (m : Int) ≤ (m : Int) := HX.out.2
          have hwn : IntKind.i64.wrap ((m : Int) - now) = (m : Int) - now := by have := HM.out; rw [IntKind.wrap_i64]; omega
          have HLs : Hid (rs.length ≤ 100000) := by
            have h5 := HVi.out.slots
            have h6 := HM.out
            rw [HNow.out] at h5
            show _ ≤ _
            omega
          have x6 := HB.out.que.cell
          cases ws with
          | nil =>
            obtain ⟨qa, qc, hqv⟩ := HB.out.que.own.form
            subst hqv
            simp only [List.length_nil] at x6 HB
            have HA : Hid (Calls Try.prog 35 #[.pointer (some ⟨w.heap.size, 0, none⟩), .string ⟨#[]⟩, .int .i64 ((m : Int) - now)] wr fun e w' => e = .returned (.tuple #[]) ∧ ∃ rv2, Bd w w' (.slice qa 0 qc) rv2 (.slice ca 0 cc) [] [] (adds rs sN ((m : Int) - now)) ∧ Ed m xs [] [] (adds rs sN ((m : Int) - now)) ∧ endF (adds rs sN ((m : Int) - now)) = (m : Int)) := by
              have h5 := HM.out
              refine (addK_any (s := sN) HB.out.row HB.out.le (by omega) (by omega) (by rw [HNow.out]; omega) (by rw [HNow.out]; omega) HLs.out HB.out.rnil).mono ?_
              rintro e w' ⟨rfl, rv2, hr, ⟨hk, hf⟩, hn⟩
              have hed := Ed.idle (m := m) (xs := xs) [] rs HE.out HD.out (by rw [HNow.out]; exact hlt)
              rw [HNow.out] at hed
              refine ⟨rfl, rv2, HB.out.added hr hk hf hn, hed, ?_⟩
              rw [adds_end, HNow.out]
              omega
            clear HX HLs HVi HE HD
            go_wp2_with fail
            refine HA.out.mono ?_
            rintro e w3 ⟨rfl, rv2, hb3, he3, hf3⟩
            obtain ⟨rs2, hrs2⟩ : ∃ rs2, adds rs sN ((m : Int) - now) = rs2 := ⟨_, rfl⟩
            rw [hrs2] at hb3 he3 hf3
            have HEn : Hid (Calls Try.prog 36 #[.pointer (some ⟨w.heap.size, 0, none⟩)] w3 fun e w' => e = .returned (.int .i64 (endF rs2)) ∧ Bd w w' (.slice qa 0 qc) rv2 (.slice ca 0 cc) [] [] rs2) := by
              refine (end_any hb3.row hb3.rnil).mono ?_
              rintro e w' ⟨rfl, hw⟩
              refine ⟨rfl, ?_⟩
              rcases hw with e | e
              · rw [e]; exact hb3
              · rw [e]; exact hb3.drew
            have HE3 := Lib.hid he3
            have HF3 := Lib.hid hf3
            clear hb3 he3 hf3 hrs2 HA
            go_wp2_with fail
            refine HEn.out.mono ?_
            rintro e w4 ⟨rfl, hb4⟩
            have HB4 := Lib.hid hb4
            clear hb4 HEn
            go_wp2_with fail
            go_roundw
            case rel => exact ⟨_, rv2, _, _, rs2, rfl, HB4, HE3⟩
            case measure => have := HF3.out; simp [intOf]; omega
          | cons x ws =>
            obtain ⟨g, qc, hqv, hg1, hg2, hg3, hg4⟩ := HB.out.que.own.pos (by simp)
            subst hqv
            simp only [List.length_cons] at x6 hg3 HB
            have HOk := Lib.hid (HVi.out.ok x (.inl List.mem_cons_self))
            obtain ⟨c0, c1, c2, c3⟩ := HB.out.que.own.cells 0 (by simp)
            simp only [Nat.zero_mul, Nat.zero_add, List.getElem_cons_zero] at c0 c1 c2 c3
            obtain ⟨xn, xr, xd, xl⟩ := x
            simp only at c0 c1 c2 c3 HOk
            obtain ⟨j, rfl⟩ : ∃ j : Nat, xn = (j : Int) := ⟨xn.toNat, by have := HOk.out; omega⟩
            have hjn : j < n := by have h5 := HOk.out; rw [HN.out] at h5; omega
            have hjx : j < xs.length := by rw [HN.out]; exact hjn
            have ji : (j : Int) < (n : Int) := by omega
            obtain ⟨_, _, e', _, _, _, hcr⟩ := HR.out.below HB.out.below
            simp only [Value.slice.injEq] at e'
            obtain ⟨rfl, _, rfl⟩ := e'
            obtain ⟨rb, ro, rfl, r0, r1, r2, r3⟩ := hcr j hjx
            have l1 : 1 ≤ xl := HOk.out.2.2.2.2.1
            have l2 : xl ≤ 65536 := HOk.out.2.2.2.2.2
            have HA : Hid (∀ t : Int, 1 ≤ t → t = min xl ((m : Int) - now) → Calls Try.prog 35 #[.pointer (some ⟨w.heap.size, 0, none⟩), .string xs[j].s, .int .i64 t] wr fun e w' => e = .returned (.tuple #[]) ∧ ∃ rv2, Bd w w' (.slice (some ⟨g, 0, none⟩) (ws.length + 1) qc) rv2 (.slice ca 0 cc) (⟨(j : Int), xr, xd, xl⟩ :: ws) [] (adds rs xs[j].s t) ∧ Ed m xs (ranF ⟨(j : Int), xr, xd, xl⟩ ws t) [] (adds rs xs[j].s t) ∧ endF (adds rs xs[j].s t) = now + t) := by
              intro t ht0 ht
              have h5 := HM.out
              refine (addK_any (s := xs[j].s) HB.out.row HB.out.le (by omega) (by omega) (by rw [HNow.out]; omega) (by rw [HNow.out]; omega) HLs.out HB.out.rnil).mono ?_
              rintro e w' ⟨rfl, rv2, hr, ⟨hk, hf⟩, hn⟩
              have hed := Ed.run (m := m) (xs := xs) ⟨(j : Int), xr, xd, xl⟩ ws [] rs hjx t HE.out HD.out (by rw [HNow.out]; exact hlt) (by rw [HNow.out]; exact ht)
              refine ⟨rfl, rv2, HB.out.added hr hk hf hn, hed, ?_⟩
              rw [adds_end, HNow.out]
            have HLw : Hid (ws.length + 1 ≤ 65536) := by
              have h5 := HVi.out.len
              simp only [List.length_cons] at h5
              show _ ≤ _
              omega
            clear HX HLs HVi HE HD HOk hcr HB
            generalize xs[j].s = sj at *
            generalize xs[j].k = kj at *
            generalize xs[j].b = bj at *
            generalize xs[j].p = pj at *
            by_cases hle : xl ≤ (m : Int) - now
            · have hmin : min xl ((m : Int) - now) = xl := by omega
              have HA2 := Lib.hid (HA.out xl l1 hmin.symm)
              clear HA
              have hw0 : IntKind.i64.wrap (xl - xl) = 0 := by rw [Int.sub_self]; rfl
              go_wp2_with fail
              refine HA2.out.mono ?_
              rintro e w3 ⟨rfl, rv2, hb3, he3, hf3⟩
              obtain ⟨rs2, hrs2⟩ : ∃ rs2, adds rs sj xl = rs2 := ⟨_, rfl⟩
              rw [hrs2] at hb3 he3 hf3
              have y6 := hb3.que.cell
              obtain ⟨y0, y1, y2, y3⟩ := hb3.que.own.cells 0 (by simp)
              simp only [Nat.zero_mul, Nat.zero_add, List.getElem_cons_zero] at y0 y1 y2 y3
              have yf := hb3.que.own.thawed 3
              have hgk : g ≠ w.heap.size + 1 := fun e => hb3.que.ne (by rw [← e]; rfl)
              clear hrs2 c0 c1 c2 c3 x6 r0 r1 r2 r3
              have HPp : Hid (Calls Try.prog 39 #[HV (w.heap.size + 1)] (w3.setCell ⟨g, 3, none⟩ (.int .i64 0)) fun e w' => ∃ u qv2, e = .returned u ∧ Bd w w' qv2 rv2 (.slice ca 0 cc) (ranF ⟨(j : Int), xr, xd, xl⟩ ws xl) [] rs2) := by
                have h5 := HLw.out
                have h6 := hb3.left (l := 0)
                refine (hpop_any h6.que h6.le (by simp) (by simp only [List.length_cons]; omega)).mono ?_
                rintro e w' ⟨u, qv2, rfl, hq, hk, ho⟩
                refine ⟨u, qv2, rfl, ?_⟩
                have h7 := h6.queued hq hk (.inl ho)
                unfold ranF
                simp only [Int.sub_self, if_true]
                exact h7
              unfold HV at HPp
              have HE3 := Lib.hid he3
              have HF3 := Lib.hid hf3
              clear hb3 he3 hf3 HA2
              go_wp2_with fail
              refine HPp.out.mono ?_
              rintro e w4 ⟨u4, qv2, rfl, hb4⟩
              have HEn : Hid (Calls Try.prog 36 #[.pointer (some ⟨w.heap.size, 0, none⟩)] w4 fun e w' => e = .returned (.int .i64 (endF rs2)) ∧ Bd w w' qv2 rv2 (.slice ca 0 cc) (ranF ⟨(j : Int), xr, xd, xl⟩ ws xl) [] rs2) := by
                refine (end_any hb4.row hb4.rnil).mono ?_
                rintro e w' ⟨rfl, hw⟩
                refine ⟨rfl, ?_⟩
                rcases hw with e | e
                · rw [e]; exact hb4
                · rw [e]; exact hb4.drew
              clear hb4
              go_wp2_with fail
              refine HEn.out.mono ?_
              rintro e w5 ⟨rfl, hb5⟩
              have HB5 := Lib.hid hb5
              clear hb5 HEn
              go_wp2_with fail
              go_roundw
              case rel => exact ⟨_, rv2, _, _, rs2, rfl, HB5, HE3⟩
              case measure => have := HF3.out; simp [intOf]; omega
            · have hmin : min xl ((m : Int) - now) = (m : Int) - now := by omega
              have HA2 := Lib.hid (HA.out ((m : Int) - now) (by omega) hmin.symm)
              clear HA
              obtain ⟨l2', hl2'⟩ : ∃ l', xl - ((m : Int) - now) = l' := ⟨_, rfl⟩
              have hl0 : l2' ≠ 0 := by omega
              have hw0 : IntKind.i64.wrap (xl - ((m : Int) - now)) = l2' := by rw [IntKind.wrap_i64]; omega
              go_wp2_with fail
              refine HA2.out.mono ?_
              rintro e w3 ⟨rfl, rv2, hb3, he3, hf3⟩
              obtain ⟨rs2, hrs2⟩ : ∃ rs2, adds rs sj ((m : Int) - now) = rs2 := ⟨_, rfl⟩
              rw [hrs2] at hb3 he3 hf3
              have y6 := hb3.que.cell
              obtain ⟨y0, y1, y2, y3⟩ := hb3.que.own.cells 0 (by simp)
              simp only [Nat.zero_mul, Nat.zero_add, List.getElem_cons_zero] at y0 y1 y2 y3
              have yf := hb3.que.own.thawed 3
              have hgk : g ≠ w.heap.size + 1 := fun e => hb3.que.ne (by rw [← e]; rfl)
              clear hrs2 c0 c1 c2 c3 x6 r0 r1 r2 r3
              have hb4 : Bd w (w3.setCell ⟨g, 3, none⟩ (.int .i64 l2')) (.slice (some ⟨g, 0, none⟩) (ws.length + 1) qc) rv2 (.slice ca 0 cc) (ranF ⟨(j : Int), xr, xd, xl⟩ ws ((m : Int) - now)) [] rs2 := by
                have h6 := hb3.left (l := l2')
                unfold ranF
                simp only [hl2', hl0, if_false]
                exact h6
              have HE3 := Lib.hid he3
              have HF3 := Lib.hid hf3
              clear hb3 he3 hf3 HA2 hl2'
              have HEn : Hid (Calls Try.prog 36 #[.pointer (some ⟨w.heap.size, 0, none⟩)] (w3.setCell ⟨g, 3, none⟩ (.int .i64 l2')) fun e w' => e = .returned (.int .i64 (endF rs2)) ∧ Bd w w' (.slice (some ⟨g, 0, none⟩) (ws.length + 1) qc) rv2 (.slice ca 0 cc) (ranF ⟨(j : Int), xr, xd, xl⟩ ws ((m : Int) - now)) [] rs2) := by
                refine (end_any hb4.row hb4.rnil).mono ?_
                rintro e w' ⟨rfl, hw⟩
                refine ⟨rfl, ?_⟩
                rcases hw with e | e
                · rw [e]; exact hb4
                · rw [e]; exact hb4.drew
              clear hb4
              go_wp2_with fail
              refine HEn.out.mono ?_
              rintro e w5 ⟨rfl, hb5⟩
              have HB5 := Lib.hid hb5
              clear hb5 HEn
              go_wp2_with fail
              go_roundw
              case rel => exact ⟨_, rv2, _, _, rs2, rfl, HB5, HE3⟩
              case measure => have := HF3.out; simp [intOf]; omega
        | cons c cs =>
          obtain ⟨cb, co, cc, hcv, hc1, hc2, d0, d1, d2, d3, htl⟩ := HB.out.com.head
          subst hcv
          have HTl := Lib.hid htl
          clear htl
          by_cases hrel : c.r = now
          · have x6 := HB.out.que.cell
            have HP : Hid (Calls Try.prog 38 #[HV (w.heap.size + 1), JobV c] wr fun e w' => e = .returned (.tuple #[]) ∧ ∃ qv2, Bd w w' qv2 rv (.slice (if cc = 1 then some ⟨cb, co, none⟩ else some ⟨cb, co + 4, none⟩) cs.length (cc - 1)) (upF (ws ++ [c]) ws.length) cs rs) := by
              have h5 := HVi.out.len
              refine (hpush_any (x := c) HB.out.que HB.out.le (by simp only [List.length_cons] at h5; omega)).mono ?_
              rintro e w' ⟨rfl, qv2, hq, hk, hf⟩
              have h6 := HB.out.queued hq hk hf
              obtain ⟨b', o', c', e', _, _, _, _, _, _, htl2⟩ := h6.com.head
              simp only [Value.slice.injEq, Option.some.injEq, Addr.mk.injEq, and_true] at e'
              obtain ⟨⟨rfl, rfl⟩, _, rfl⟩ := e'
              refine ⟨rfl, qv2, ?_⟩
              by_cases hcc : cc = 1
              · obtain rfl : cs = [] := List.eq_nil_of_length_eq_zero (by omega)
                rw [if_pos hcc]
                exact h6.tail ⟨_, _, rfl, by simp, by unfold maxLen; omega, fun i hi => by simp at hi⟩ rfl
              · rw [if_neg hcc]
                exact h6.tail htl2 rfl
            have HE2 : Hid (Ed m xs (upF (ws ++ [c]) ws.length) cs rs) := Ed.push ws c cs rs HE.out (by rw [HNow.out]; exact hrel)
            clear HB HE HVi HTl
            unfold HV JobV at HP
            obtain ⟨cn, cr, cd, cl⟩ := c
            simp only at d0 d1 d2 d3 hrel HP HE2
            subst hrel
            unfold maxLen at hc2
            have j9 : (1 : Int) ≤ ((cs.length + 1 : Nat) : Int) := by omega
            go_wp2_with fail
            refine HP.out.mono ?_
            rintro e w3 ⟨rfl, qv2, hb3⟩
            have HB3 := Lib.hid hb3
            clear hb3 HP
            go_wp2_with fail
            go_roundw
            case rel => exact ⟨qv2, _, cs, HB3, HE2⟩
            case measure => simp [lenV]
          · have HD : Hid (dueN (endF rs) (c :: cs)) := by rw [HNow.out]; exact hrel
            obtain ⟨cn, cr, cd, cl⟩ := c
            simp only at d0 d1 d2 d3 hrel
            unfold maxLen at hc2
            clear HTl
            have HX : Hid (endF rs < cr ∧ cr ≤ (m : Int)) := by
              have h5 := nextF_gt HVi.out HD.out (by rw [HNow.out]; exact hlt)
              exact ⟨h5.1, h5.2.1⟩
            have nx1 : now < cr := by have := HX.out.1; rw [HNow.out] at this; exact this
            have nx2 : cr ≤ (m : Int) := HX.out.2
            have hwn : IntKind.i64.wrap (cr - now) = cr - now := by have := HM.out; rw [IntKind.wrap_i64]; omega
            have HLs : Hid (rs.length ≤ 100000) := by
              have h5 := HVi.out.slots
              have h6 := HM.out
              rw [HNow.out] at h5
              show _ ≤ _
              omega
            have x6 := HB.out.que.cell
            cases ws with
            | nil =>
              obtain ⟨qa, qc, hqv⟩ := HB.out.que.own.form
              subst hqv
              simp only [List.length_nil] at x6 HB
              have HA : Hid (Calls Try.prog 35 #[.pointer (some ⟨w.heap.size, 0, none⟩), .string ⟨#[]⟩, .int .i64 (cr - now)] wr fun e w' => e = .returned (.tuple #[]) ∧ ∃ rv2, Bd w w' (.slice qa 0 qc) rv2 (.slice (some ⟨cb, co, none⟩) (cs.length + 1) cc) [] (⟨cn, cr, cd, cl⟩ :: cs) (adds rs sN (cr - now)) ∧ Ed m xs [] (⟨cn, cr, cd, cl⟩ :: cs) (adds rs sN (cr - now)) ∧ endF (adds rs sN (cr - now)) = cr) := by
                have h5 := HM.out
                refine (addK_any (s := sN) HB.out.row HB.out.le (by omega) (by omega) (by rw [HNow.out]; omega) (by rw [HNow.out]; omega) HLs.out HB.out.rnil).mono ?_
                rintro e w' ⟨rfl, rv2, hr, ⟨hk, hf⟩, hn⟩
                have hed := Ed.idle (m := m) (xs := xs) (⟨cn, cr, cd, cl⟩ :: cs) rs HE.out HD.out (by rw [HNow.out]; exact hlt)
                rw [HNow.out] at hed
                refine ⟨rfl, rv2, HB.out.added hr hk hf hn, hed, ?_⟩
                rw [adds_end, HNow.out]
                omega
              clear HX HLs HVi HE HD
              go_wp2_with fail
              refine HA.out.mono ?_
              rintro e w3 ⟨rfl, rv2, hb3, he3, hf3⟩
              obtain ⟨rs2, hrs2⟩ : ∃ rs2, adds rs sN (cr - now) = rs2 := ⟨_, rfl⟩
              rw [hrs2] at hb3 he3 hf3
              have HEn : Hid (Calls Try.prog 36 #[.pointer (some ⟨w.heap.size, 0, none⟩)] w3 fun e w' => e = .returned (.int .i64 (endF rs2)) ∧ Bd w w' (.slice qa 0 qc) rv2 (.slice (some ⟨cb, co, none⟩) (cs.length + 1) cc) [] (⟨cn, cr, cd, cl⟩ :: cs) rs2) := by
                refine (end_any hb3.row hb3.rnil).mono ?_
                rintro e w' ⟨rfl, hw⟩
                refine ⟨rfl, ?_⟩
                rcases hw with e | e
                · rw [e]; exact hb3
                · rw [e]; exact hb3.drew
              have HE3 := Lib.hid he3
              have HF3 := Lib.hid hf3
              clear hb3 he3 hf3 hrs2 HA
              go_wp2_with fail
              refine HEn.out.mono ?_
              rintro e w4 ⟨rfl, hb4⟩
              have HB4 := Lib.hid hb4
              clear hb4 HEn
              go_wp2_with fail
              go_roundw
              case rel => exact ⟨_, rv2, _, _, rs2, rfl, HB4, HE3⟩
              case measure => have := HF3.out; simp [intOf]; omega
            | cons x ws =>
              obtain ⟨g, qc, hqv, hg1, hg2, hg3, hg4⟩ := HB.out.que.own.pos (by simp)
              subst hqv
              simp only [List.length_cons] at x6 hg3 HB
              have HOk := Lib.hid (HVi.out.ok x (.inl List.mem_cons_self))
              obtain ⟨c0, c1, c2, c3⟩ := HB.out.que.own.cells 0 (by simp)
              simp only [Nat.zero_mul, Nat.zero_add, List.getElem_cons_zero] at c0 c1 c2 c3
              obtain ⟨xn, xr, xd, xl⟩ := x
              simp only at c0 c1 c2 c3 HOk
              obtain ⟨j, rfl⟩ : ∃ j : Nat, xn = (j : Int) := ⟨xn.toNat, by have := HOk.out; omega⟩
              have hjn : j < n := by have h5 := HOk.out; rw [HN.out] at h5; omega
              have hjx : j < xs.length := by rw [HN.out]; exact hjn
              have ji : (j : Int) < (n : Int) := by omega
              obtain ⟨_, _, e', _, _, _, hcr⟩ := HR.out.below HB.out.below
              simp only [Value.slice.injEq] at e'
              obtain ⟨rfl, _, rfl⟩ := e'
              obtain ⟨rb, ro, rfl, r0, r1, r2, r3⟩ := hcr j hjx
              have l1 : 1 ≤ xl := HOk.out.2.2.2.2.1
              have l2 : xl ≤ 65536 := HOk.out.2.2.2.2.2
              have HA : Hid (∀ t : Int, 1 ≤ t → t = min xl (cr - now) → Calls Try.prog 35 #[.pointer (some ⟨w.heap.size, 0, none⟩), .string xs[j].s, .int .i64 t] wr fun e w' => e = .returned (.tuple #[]) ∧ ∃ rv2, Bd w w' (.slice (some ⟨g, 0, none⟩) (ws.length + 1) qc) rv2 (.slice (some ⟨cb, co, none⟩) (cs.length + 1) cc) (⟨(j : Int), xr, xd, xl⟩ :: ws) (⟨cn, cr, cd, cl⟩ :: cs) (adds rs xs[j].s t) ∧ Ed m xs (ranF ⟨(j : Int), xr, xd, xl⟩ ws t) (⟨cn, cr, cd, cl⟩ :: cs) (adds rs xs[j].s t) ∧ endF (adds rs xs[j].s t) = now + t) := by
                intro t ht0 ht
                have h5 := HM.out
                refine (addK_any (s := xs[j].s) HB.out.row HB.out.le (by omega) (by omega) (by rw [HNow.out]; omega) (by rw [HNow.out]; omega) HLs.out HB.out.rnil).mono ?_
                rintro e w' ⟨rfl, rv2, hr, ⟨hk, hf⟩, hn⟩
                have hed := Ed.run (m := m) (xs := xs) ⟨(j : Int), xr, xd, xl⟩ ws (⟨cn, cr, cd, cl⟩ :: cs) rs hjx t HE.out HD.out (by rw [HNow.out]; exact hlt) (by rw [HNow.out]; exact ht)
                refine ⟨rfl, rv2, HB.out.added hr hk hf hn, hed, ?_⟩
                rw [adds_end, HNow.out]
              have HLw : Hid (ws.length + 1 ≤ 65536) := by
                have h5 := HVi.out.len
                simp only [List.length_cons] at h5
                show _ ≤ _
                omega
              clear HX HLs HVi HE HD HOk hcr HB
              generalize xs[j].s = sj at *
              generalize xs[j].k = kj at *
              generalize xs[j].b = bj at *
              generalize xs[j].p = pj at *
              by_cases hle : xl ≤ cr - now
              · have hmin : min xl (cr - now) = xl := by omega
                have HA2 := Lib.hid (HA.out xl l1 hmin.symm)
                clear HA
                have hw0 : IntKind.i64.wrap (xl - xl) = 0 := by rw [Int.sub_self]; rfl
                go_wp2_with fail
                refine HA2.out.mono ?_
                rintro e w3 ⟨rfl, rv2, hb3, he3, hf3⟩
                obtain ⟨rs2, hrs2⟩ : ∃ rs2, adds rs sj xl = rs2 := ⟨_, rfl⟩
                rw [hrs2] at hb3 he3 hf3
                have y6 := hb3.que.cell
                obtain ⟨y0, y1, y2, y3⟩ := hb3.que.own.cells 0 (by simp)
                simp only [Nat.zero_mul, Nat.zero_add, List.getElem_cons_zero] at y0 y1 y2 y3
                have yf := hb3.que.own.thawed 3
                have hgk : g ≠ w.heap.size + 1 := fun e => hb3.que.ne (by rw [← e]; rfl)
                clear hrs2 c0 c1 c2 c3 x6 r0 r1 r2 r3
                have HPp : Hid (Calls Try.prog 39 #[HV (w.heap.size + 1)] (w3.setCell ⟨g, 3, none⟩ (.int .i64 0)) fun e w' => ∃ u qv2, e = .returned u ∧ Bd w w' qv2 rv2 (.slice (some ⟨cb, co, none⟩) (cs.length + 1) cc) (ranF ⟨(j : Int), xr, xd, xl⟩ ws xl) (⟨cn, cr, cd, cl⟩ :: cs) rs2) := by
                  have h5 := HLw.out
                  have h6 := hb3.left (l := 0)
                  refine (hpop_any h6.que h6.le (by simp) (by simp only [List.length_cons]; omega)).mono ?_
                  rintro e w' ⟨u, qv2, rfl, hq, hk, ho⟩
                  refine ⟨u, qv2, rfl, ?_⟩
                  have h7 := h6.queued hq hk (.inl ho)
                  unfold ranF
                  simp only [Int.sub_self, if_true]
                  exact h7
                unfold HV at HPp
                have HE3 := Lib.hid he3
                have HF3 := Lib.hid hf3
                clear hb3 he3 hf3 HA2
                go_wp2_with fail
                refine HPp.out.mono ?_
                rintro e w4 ⟨u4, qv2, rfl, hb4⟩
                have HEn : Hid (Calls Try.prog 36 #[.pointer (some ⟨w.heap.size, 0, none⟩)] w4 fun e w' => e = .returned (.int .i64 (endF rs2)) ∧ Bd w w' qv2 rv2 (.slice (some ⟨cb, co, none⟩) (cs.length + 1) cc) (ranF ⟨(j : Int), xr, xd, xl⟩ ws xl) (⟨cn, cr, cd, cl⟩ :: cs) rs2) := by
                  refine (end_any hb4.row hb4.rnil).mono ?_
                  rintro e w' ⟨rfl, hw⟩
                  refine ⟨rfl, ?_⟩
                  rcases hw with e | e
                  · rw [e]; exact hb4
                  · rw [e]; exact hb4.drew
                clear hb4
                go_wp2_with fail
                refine HEn.out.mono ?_
                rintro e w5 ⟨rfl, hb5⟩
                have HB5 := Lib.hid hb5
                clear hb5 HEn
                go_wp2_with fail
                go_roundw
                case rel => exact ⟨_, rv2, _, _, rs2, rfl, HB5, HE3⟩
                case measure => have := HF3.out; simp [intOf]; omega
              · have hmin : min xl (cr - now) = cr - now := by omega
                have HA2 := Lib.hid (HA.out (cr - now) (by omega) hmin.symm)
                clear HA
                obtain ⟨l2', hl2'⟩ : ∃ l', xl - (cr - now) = l' := ⟨_, rfl⟩
                have hl0 : l2' ≠ 0 := by omega
                have hw0 : IntKind.i64.wrap (xl - (cr - now)) = l2' := by rw [IntKind.wrap_i64]; omega
                go_wp2_with fail
                refine HA2.out.mono ?_
                rintro e w3 ⟨rfl, rv2, hb3, he3, hf3⟩
                obtain ⟨rs2, hrs2⟩ : ∃ rs2, adds rs sj (cr - now) = rs2 := ⟨_, rfl⟩
                rw [hrs2] at hb3 he3 hf3
                have y6 := hb3.que.cell
                obtain ⟨y0, y1, y2, y3⟩ := hb3.que.own.cells 0 (by simp)
                simp only [Nat.zero_mul, Nat.zero_add, List.getElem_cons_zero] at y0 y1 y2 y3
                have yf := hb3.que.own.thawed 3
                have hgk : g ≠ w.heap.size + 1 := fun e => hb3.que.ne (by rw [← e]; rfl)
                clear hrs2 c0 c1 c2 c3 x6 r0 r1 r2 r3
                have hb4 : Bd w (w3.setCell ⟨g, 3, none⟩ (.int .i64 l2')) (.slice (some ⟨g, 0, none⟩) (ws.length + 1) qc) rv2 (.slice (some ⟨cb, co, none⟩) (cs.length + 1) cc) (ranF ⟨(j : Int), xr, xd, xl⟩ ws (cr - now)) (⟨cn, cr, cd, cl⟩ :: cs) rs2 := by
                  have h6 := hb3.left (l := l2')
                  unfold ranF
                  simp only [hl2', hl0, if_false]
                  exact h6
                have HE3 := Lib.hid he3
                have HF3 := Lib.hid hf3
                clear hb3 he3 hf3 HA2 hl2'
                have HEn : Hid (Calls Try.prog 36 #[.pointer (some ⟨w.heap.size, 0, none⟩)] (w3.setCell ⟨g, 3, none⟩ (.int .i64 l2')) fun e w' => e = .returned (.int .i64 (endF rs2)) ∧ Bd w w' (.slice (some ⟨g, 0, none⟩) (ws.length + 1) qc) rv2 (.slice (some ⟨cb, co, none⟩) (cs.length + 1) cc) (ranF ⟨(j : Int), xr, xd, xl⟩ ws (cr - now)) (⟨cn, cr, cd, cl⟩ :: cs) rs2) := by
                  refine (end_any hb4.row hb4.rnil).mono ?_
                  rintro e w' ⟨rfl, hw⟩
                  refine ⟨rfl, ?_⟩
                  rcases hw with e | e
                  · rw [e]; exact hb4
                  · rw [e]; exact hb4.drew
                clear hb4
                go_wp2_with fail
                refine HEn.out.mono ?_
                rintro e w5 ⟨rfl, hb5⟩
                have HB5 := Lib.hid hb5
                clear hb5 HEn
                go_wp2_with fail
                go_roundw
                case rel => exact ⟨_, rv2, _, _, rs2, rfl, HB5, HE3⟩
                case measure => have := HF3.out; simp [intOf]; omega
    · obtain rfl : now = (m : Int) := by omega
      have x5 := HB.out.row.cell
      have HF : Hid (OwnS wr w.heap.size rv rs ∧ Ed m xs ws cs rs ∧ endF rs = (m : Int) ∧ Below w.heap.size w wr) := ⟨HB.out.row.own, HE.out, HNow.out, HB.out.below⟩
      go_wp2_with fail
      go_ret
      exact ⟨_, rfl, ws, cs, rs, HF.out.1, HF.out.2.1, HF.out.2.2.1, HF.out.2.2.2⟩
end Go.Proofs.Ytkhlkbgolonkkaa
