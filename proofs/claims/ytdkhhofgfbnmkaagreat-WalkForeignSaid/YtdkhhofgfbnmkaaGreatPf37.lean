import Derived.Test.YtdkhhofgfbnmkaaGreatPf36
/- The document's own Entry and Make. Own work. -/
namespace Go.Proofs.YtdkhhofgfbnmkaaGreat
open Go.RowKit Wk
/-- the document's Entry, as it asks -/
theorem ref_ent (e : Nat) (l : Int) : entB e l =
    if l < 0 ∨ 2 < l then (no, 1) else if e % 2 = 0 then (no, 41) else if e ≠ fr e + e % 16 then (no, 42) else
    if (l = 0 ∨ (l = 1 ∧ bit3 e = false)) ∧ (bit1 e = true ∨ bit2 e = true ∨ bit3 e = true) then (no, 42) else
    if (l = 1 ∧ bit3 e = true ∧ 0 < fr e % 2097152) ∨ (l = 2 ∧ bit3 e = true) then (no, 42) else
    ((fr e, l == 0 || (l == 1 && !bit3 e), bit3 e, bit1 e, bit2 e), 0) := by
  unfold entB
  split
  · rfl
  · rename_i hl
    split
    · rfl
    · have hb : bare e = (e == fr e + e % 16) := rfl
      have b1 : bit1 e = true ↔ e / 2 % 2 = 1 := by simp [bit1]
      have b2 : bit2 e = true ↔ e / 4 % 2 = 1 := by simp [bit2]
      have b3 : bit3 e = true ↔ e / 8 % 2 = 1 := by simp [bit3]
      by_cases c1 : e = fr e + e % 16
      · rw [if_neg (show ¬ (e ≠ fr e + e % 16) from fun h => h c1)]
        have hbt : bare e = true := by rw [hb]; simpa using c1
        have hs : Wk.sound e l = true ↔ ¬ ((l = 0 ∨ (l = 1 ∧ bit3 e = false)) ∧ (bit1 e = true ∨ bit2 e = true ∨ bit3 e = true)) ∧ ¬ ((l = 1 ∧ bit3 e = true ∧ 0 < fr e % 2097152) ∨ (l = 2 ∧ bit3 e = true)) := by
          unfold Wk.sound
          rw [hbt, Bool.true_and]
          have hl3 : l = 0 ∨ l = 1 ∨ l = 2 := by omega
          rcases hl3 with rfl | rfl | rfl
          · rw [if_pos rfl, beq_iff_eq]
            rw [b1, b2, b3]
            omega
          · rw [if_neg (by decide), if_neg (by decide)]
            cases h3 : bit3 e with
            | true => simp
            | false =>
              rw [if_neg (by decide), beq_iff_eq, b1, b2]
              simp
              omega
          · rw [if_neg (by decide), if_pos rfl]
            cases h3 : bit3 e <;> simp
        by_cases c2 : (l = 0 ∨ (l = 1 ∧ bit3 e = false)) ∧ (bit1 e = true ∨ bit2 e = true ∨ bit3 e = true)
        · rw [if_pos c2, if_neg (fun h => (hs.1 h).1 c2)]
        · rw [if_neg c2]
          by_cases c3 : (l = 1 ∧ bit3 e = true ∧ 0 < fr e % 2097152) ∨ (l = 2 ∧ bit3 e = true)
          · rw [if_pos c3, if_neg (fun h => (hs.1 h).2 c3)]
          · rw [if_neg c3, if_pos (hs.2 ⟨c2, c3⟩)]
            rfl
      · rw [if_pos c1, if_neg]
        unfold Wk.sound
        rw [hb]
        simp [c1]
theorem ref_make (x : Ent) (l : Int) : makeB x l = if l < 0 ∨ 2 < l then (0, 1) else if 4294967296 ≤ x.1 then (0, 42) else if entB (rawE x) l = (x, 0) then (rawE x, 0) else (0, 42) := by
  unfold makeB
  split
  · rfl
  · by_cases h : 4294967296 ≤ x.1
    · rw [if_pos h, if_neg]
      intro h1
      have := ent_lt h1
      omega
    · rw [if_neg h]
theorem refEnd {w W : World} {r : Ent} {k : Int} {tm : Array Value} (hb : BoxE W w.heap.size r) (hB : Below w.heap.size w W) (h4 : tm[4]? = some (.pointer (some ⟨w.heap.size, 0, none⟩))) (h5 : tm[5]? = some (.int .i64 k)) :
    bodyPost Tryz.prog Tryz.f46 (EntPost w (r, k)) Exit.ret { tmps := tm, defers := [] } W := by
  obtain ⟨c0, c1, c2, c3, c4⟩ := hb.cells
  refine bodyPost_ret (v := .tuple #[EntV r, .int .i64 k]) (by simp [results, Tryz.results46, go_sem, EntV, h4, h5, c0, c1, c2, c3, c4]) rfl ?_
  exact ⟨rfl, hB⟩
set_option maxRecDepth 100000 in
set_option maxHeartbeats 8000000 in
theorem refEntry_any {e : Nat} (he : e < 18446744073709551616) (l : Int) (w : World) :
    Calls Tryz.prog 46 #[.int .u64 (e : Int), .int .i64 l] w (EntPost w (entB e l)) := by
  have HR := (show Hid _ from ref_ent e l)
  by_cases hl : l < 0 ∨ 2 < l
  · have HR : Hid (entB e l = _) := HR.out.trans (if_pos hl)
    rcases hl with hl | hl
    · go_enter Tryz.func46, Tryz.ntmps46
      go_wp2
      rw [show entB e _ = (no, 1) from HR.out]
      (first | exact refEnd (r := no) (BoxE.new w no) ((Below.refl _ _).alloc (Nat.le_refl _) _) rfl rfl | exact refEnd (r := no) ((BoxE.new w no).below ((Below.refl _ _).alloc (Nat.le_refl _) _)) (((Below.refl _ _).alloc (Nat.le_refl _) _).alloc (by simp) _) rfl rfl)
    · go_enter Tryz.func46, Tryz.ntmps46
      go_wp2
      rw [show entB e _ = (no, 1) from HR.out]
      (first | exact refEnd (r := no) (BoxE.new w no) ((Below.refl _ _).alloc (Nat.le_refl _) _) rfl rfl | exact refEnd (r := no) ((BoxE.new w no).below ((Below.refl _ _).alloc (Nat.le_refl _) _)) (((Below.refl _ _).alloc (Nat.le_refl _) _).alloc (by simp) _) rfl rfl)
  · have HR1 : Hid (entB e l = _) := HR.out.trans (if_neg hl)
    have hl3 : l = 0 ∨ l = 1 ∨ l = 2 := by omega
    clear HR
    by_cases ho : e % 2 = 0
    · have HR : Hid (entB e l = _) := HR1.out.trans (if_pos ho)
      have h1 : (e : Int) % 2 = 0 := by omega
      clear HR1
      rcases hl3 with rfl | rfl | rfl
      · go_enter Tryz.func46, Tryz.ntmps46
        go_wp2
        rw [show entB e _ = (no, 41) from HR.out]
        (first | exact refEnd (r := no) (BoxE.new w no) ((Below.refl _ _).alloc (Nat.le_refl _) _) rfl rfl | exact refEnd (r := no) ((BoxE.new w no).below ((Below.refl _ _).alloc (Nat.le_refl _) _)) (((Below.refl _ _).alloc (Nat.le_refl _) _).alloc (by simp) _) rfl rfl)
      · go_enter Tryz.func46, Tryz.ntmps46
        go_wp2
        rw [show entB e _ = (no, 41) from HR.out]
        (first | exact refEnd (r := no) (BoxE.new w no) ((Below.refl _ _).alloc (Nat.le_refl _) _) rfl rfl | exact refEnd (r := no) ((BoxE.new w no).below ((Below.refl _ _).alloc (Nat.le_refl _) _)) (((Below.refl _ _).alloc (Nat.le_refl _) _).alloc (by simp) _) rfl rfl)
      · go_enter Tryz.func46, Tryz.ntmps46
        go_wp2
        rw [show entB e _ = (no, 41) from HR.out]
        (first | exact refEnd (r := no) (BoxE.new w no) ((Below.refl _ _).alloc (Nat.le_refl _) _) rfl rfl | exact refEnd (r := no) ((BoxE.new w no).below ((Below.refl _ _).alloc (Nat.le_refl _) _)) (((Below.refl _ _).alloc (Nat.le_refl _) _).alloc (by simp) _) rfl rfl)
    · have HR2 : Hid (entB e l = _) := HR1.out.trans (if_neg ho)
      have h1 : (e : Int) % 2 = 1 := by omega
      have hf : (e : Int) / 4096 % 1048576 * 4096 = (fr e : Int) := by unfold fr; omega
      have hfl := fr_lt e
      have q1 : ((e : Int) / 2 % 2 == 1) = bit1 e := by unfold bit1; rw [Bool.eq_iff_iff]; simp only [beq_iff_eq]; omega
      have q2 : ((e : Int) / 4 % 2 == 1) = bit2 e := by unfold bit2; rw [Bool.eq_iff_iff]; simp only [beq_iff_eq]; omega
      have q3 : ((e : Int) / 8 % 2 == 1) = bit3 e := by unfold bit3; rw [Bool.eq_iff_iff]; simp only [beq_iff_eq]; omega
      clear HR1
      generalize fr e = F at *
      generalize bit1 e = b1 at *
      generalize bit2 e = b2 at *
      generalize bit3 e = b3 at *
      by_cases hs : e = F + e % 16
      · have HR : Hid (entB e l = _) := HR2.out.trans (if_neg (fun h => h hs))
        have hsi : (F : Int) + (e : Int) % 16 = (e : Int) := by omega
        clear hs HR2
        rcases hl3 with rfl | rfl | rfl
        · cases b3 <;> cases b1 <;> cases b2
          · go_enter Tryz.func46, Tryz.ntmps46
            go_wp2
            rw [show entB e _ = ((F, true, false, false, false), 0) from HR.out.trans (by simp)]
            (first | exact refEnd (r := (F, true, false, false, false)) (BoxE.new w (F, true, false, false, false)) ((Below.refl _ _).alloc (Nat.le_refl _) _) rfl rfl | exact refEnd (r := (F, true, false, false, false)) ((BoxE.new w (F, true, false, false, false)).below ((Below.refl _ _).alloc (Nat.le_refl _) _)) (((Below.refl _ _).alloc (Nat.le_refl _) _).alloc (by simp) _) rfl rfl)
          all_goals
            go_enter Tryz.func46, Tryz.ntmps46
            go_wp2
            rw [show entB e _ = (no, 42) from HR.out.trans (by simp)]
            (first | exact refEnd (r := no) (BoxE.new w no) ((Below.refl _ _).alloc (Nat.le_refl _) _) rfl rfl | exact refEnd (r := no) ((BoxE.new w no).below ((Below.refl _ _).alloc (Nat.le_refl _) _)) (((Below.refl _ _).alloc (Nat.le_refl _) _).alloc (by simp) _) rfl rfl)
        · cases b3
          · cases b1 <;> cases b2
            · go_enter Tryz.func46, Tryz.ntmps46
              go_wp2
              rw [show entB e _ = ((F, true, false, false, false), 0) from HR.out.trans (by simp)]
              (first | exact refEnd (r := (F, true, false, false, false)) (BoxE.new w (F, true, false, false, false)) ((Below.refl _ _).alloc (Nat.le_refl _) _) rfl rfl | exact refEnd (r := (F, true, false, false, false)) ((BoxE.new w (F, true, false, false, false)).below ((Below.refl _ _).alloc (Nat.le_refl _) _)) (((Below.refl _ _).alloc (Nat.le_refl _) _).alloc (by simp) _) rfl rfl)
            all_goals
              go_enter Tryz.func46, Tryz.ntmps46
              go_wp2
              rw [show entB e _ = (no, 42) from HR.out.trans (by simp)]
              (first | exact refEnd (r := no) (BoxE.new w no) ((Below.refl _ _).alloc (Nat.le_refl _) _) rfl rfl | exact refEnd (r := no) ((BoxE.new w no).below ((Below.refl _ _).alloc (Nat.le_refl _) _)) (((Below.refl _ _).alloc (Nat.le_refl _) _).alloc (by simp) _) rfl rfl)
          · by_cases hq : 0 < F % 2097152
            · have hq1 : 0 < (F : Int) % 2097152 := by omega
              have HQ : Hid (entB e 1 = (no, 42)) := HR.out.trans (by simp [hq])
              clear hq HR
              go_enter Tryz.func46, Tryz.ntmps46
              go_wp2
              rw [show entB e _ = (no, 42) from HQ.out]
              (first | exact refEnd (r := no) (BoxE.new w no) ((Below.refl _ _).alloc (Nat.le_refl _) _) rfl rfl | exact refEnd (r := no) ((BoxE.new w no).below ((Below.refl _ _).alloc (Nat.le_refl _) _)) (((Below.refl _ _).alloc (Nat.le_refl _) _).alloc (by simp) _) rfl rfl)
            · have hq1 : (F : Int) % 2097152 = 0 := by omega
              have HQ : Hid (entB e 1 = ((F, false, true, b1, b2), 0)) := HR.out.trans (by simp [hq])
              clear hq HR
              go_enter Tryz.func46, Tryz.ntmps46
              go_wp2
              rw [show entB e _ = ((F, false, true, b1, b2), 0) from HQ.out]
              (first | exact refEnd (r := (F, false, true, b1, b2)) (BoxE.new w (F, false, true, b1, b2)) ((Below.refl _ _).alloc (Nat.le_refl _) _) rfl rfl | exact refEnd (r := (F, false, true, b1, b2)) ((BoxE.new w (F, false, true, b1, b2)).below ((Below.refl _ _).alloc (Nat.le_refl _) _)) (((Below.refl _ _).alloc (Nat.le_refl _) _).alloc (by simp) _) rfl rfl)
        · cases b3
          · go_enter Tryz.func46, Tryz.ntmps46
            go_wp2
            rw [show entB e _ = ((F, false, false, b1, b2), 0) from HR.out.trans (by simp)]
            (first | exact refEnd (r := (F, false, false, b1, b2)) (BoxE.new w (F, false, false, b1, b2)) ((Below.refl _ _).alloc (Nat.le_refl _) _) rfl rfl | exact refEnd (r := (F, false, false, b1, b2)) ((BoxE.new w (F, false, false, b1, b2)).below ((Below.refl _ _).alloc (Nat.le_refl _) _)) (((Below.refl _ _).alloc (Nat.le_refl _) _).alloc (by simp) _) rfl rfl)
          · go_enter Tryz.func46, Tryz.ntmps46
            go_wp2
            rw [show entB e _ = (no, 42) from HR.out.trans (by simp)]
            (first | exact refEnd (r := no) (BoxE.new w no) ((Below.refl _ _).alloc (Nat.le_refl _) _) rfl rfl | exact refEnd (r := no) ((BoxE.new w no).below ((Below.refl _ _).alloc (Nat.le_refl _) _)) (((Below.refl _ _).alloc (Nat.le_refl _) _).alloc (by simp) _) rfl rfl)
      · have HR : Hid (entB e l = _) := HR2.out.trans (if_pos hs)
        have hsi : ((e : Int) == (F : Int) + (e : Int) % 16) = false := by
          simp only [beq_eq_false_iff_ne, ne_eq]
          omega
        have hsi2 : ((e : Int) != (F : Int) + (e : Int) % 16) = true := by
          simp only [bne_iff_ne, ne_eq]
          omega
        clear hs HR2
        rcases hl3 with rfl | rfl | rfl
        · go_enter Tryz.func46, Tryz.ntmps46
          go_wp2
          rw [show entB e _ = (no, 42) from HR.out]
          (first | exact refEnd (r := no) (BoxE.new w no) ((Below.refl _ _).alloc (Nat.le_refl _) _) rfl rfl | exact refEnd (r := no) ((BoxE.new w no).below ((Below.refl _ _).alloc (Nat.le_refl _) _)) (((Below.refl _ _).alloc (Nat.le_refl _) _).alloc (by simp) _) rfl rfl)
        · go_enter Tryz.func46, Tryz.ntmps46
          go_wp2
          rw [show entB e _ = (no, 42) from HR.out]
          (first | exact refEnd (r := no) (BoxE.new w no) ((Below.refl _ _).alloc (Nat.le_refl _) _) rfl rfl | exact refEnd (r := no) ((BoxE.new w no).below ((Below.refl _ _).alloc (Nat.le_refl _) _)) (((Below.refl _ _).alloc (Nat.le_refl _) _).alloc (by simp) _) rfl rfl)
        · go_enter Tryz.func46, Tryz.ntmps46
          go_wp2
          rw [show entB e _ = (no, 42) from HR.out]
          (first | exact refEnd (r := no) (BoxE.new w no) ((Below.refl _ _).alloc (Nat.le_refl _) _) rfl rfl | exact refEnd (r := no) ((BoxE.new w no).below ((Below.refl _ _).alloc (Nat.le_refl _) _)) (((Below.refl _ _).alloc (Nat.le_refl _) _).alloc (by simp) _) rfl rfl)
end Go.Proofs.YtdkhhofgfbnmkaaGreat
