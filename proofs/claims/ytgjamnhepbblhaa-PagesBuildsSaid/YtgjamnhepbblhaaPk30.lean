import Derived.Test.YtgjamnhepbblhaaPk28
import Derived.Test.YtgjamnhepbblhaaPk29
/- Pages: the document's Count, of any rows. Own work. -/
namespace Go.Proofs.Ytgjamnhepbblhaa
open Go.RowKit Wk
set_option linter.unusedVariables false
theorem full_len {xs : List L6} (hr : refuF 0 xs = 0) : (tsU [(0, 0)] (units xs)).length = tabsF 1 0 0 xs := by
  rw [← bld_nx 0 hr]
  exact (rt_rows hr (cl0 0) up0 rt0).len
set_option maxRecDepth 100000 in
set_option maxHeartbeats 4000000 in
theorem rcount_any {w : World} {v : Value} {xs : List L6} (h : Lv w v xs) : Calls Try.prog 13 #[v] w fun e w' => e = .returned (.tuple #[.int .i64 ((countF xs).1 : Int), .int .i64 (countF xs).2]) ∧ Below w.heap.size w w' := by
  have HR := Lib.hid h
  have HRf := Lib.hid (rrefuses_any h)
  have HTb : Hid (refuF 0 xs = 0 → ∀ W, Lv W v xs → Calls Try.prog 28 #[v] W (TbsP W xs)) := fun hr W hW => rtables_any hW hr
  clear h
  obtain ⟨er, her⟩ : ∃ e, refuF 0 xs = e := ⟨_, rfl⟩
  rw [her] at HRf
  by_cases h0 : er = 0
  · subst h0
    have hL := full_len her
    obtain ⟨k, hk⟩ : ∃ k, tabsF 1 0 0 xs = k := ⟨_, rfl⟩
    rw [hk] at hL
    have HL := Lib.hid hL
    have HTb := Lib.hid (HTb.out her)
    have HC : Hid (countF xs = if 1024 < k then (0, 4) else (k, 0)) := Lib.hid (by unfold countF; rw [if_neg (by rw [her]; decide), hk])
    clear her hk hL
    go_enter Try.func13, Try.ntmps13
    go_wp2_with fail
    refine HRf.out.mono ?_
    rintro e w1 ⟨rfl, hb⟩
    have HB1 := Lib.hid hb
    clear hb HRf
    go_wp2_with fail
    refine (HTb.out _ (HR.out.below HB1.out)).mono ?_
    rintro e w2 ⟨g, cap, ts, rfl, _, hcap, hl0, hlm, hT, hF, hb⟩
    have HB := Lib.hid (HB1.out.trans (hb.mono HB1.out.size))
    clear hb HB1
    by_cases h1 : ts.length ≤ 1024
    · have hts := hT h1
      have hlen : ts.length = k := by rw [hts]; exact HL.out
      have j1 : ¬ (1024 : Int) < (ts.length : Int) := by omega
      have HCe : Hid (countF xs = (ts.length, 0)) := Lib.hid (by rw [HC.out, if_neg (by omega), hlen])
      clear hT hF hts hlen HC
      generalize ts.length = l at *
      go_wp2_with fail
      go_ret2
      exact ⟨by rw [HCe.out]; rfl, HB.out⟩
    · have hk2 : 1024 < k := by rw [← HL.out]; exact hF (by omega)
      have j1 : (1024 : Int) < (ts.length : Int) := by omega
      have HCe : Hid (countF xs = (0, 4)) := Lib.hid (by rw [HC.out, if_pos hk2])
      clear hT hF HC
      generalize ts.length = l at *
      go_wp2_with fail
      go_ret2
      exact ⟨by rw [HCe.out]; rfl, HB.out⟩
  · have HC : Hid (countF xs = (0, er)) := Lib.hid (by unfold countF; rw [if_pos (by rw [her]; exact h0), her])
    rw [HC.out]
    clear her HTb
    go_enter Try.func13, Try.ntmps13
    go_wp2_with fail
    refine HRf.out.mono ?_
    rintro e w1 ⟨rfl, hb⟩
    have HB1 := Lib.hid hb
    clear hb HRf
    go_wp2_with fail
    go_ret2
    exact ⟨rfl, HB1.out⟩
end Go.Proofs.Ytgjamnhepbblhaa
/- Pages: for the document's Build. Own work. -/
namespace Go.Proofs.Ytgjamnhepbblhaa
open Go.RowKit Wk
set_option linter.unusedVariables false
set_option maxRecDepth 20000
theorem or_nat {a b : Nat} (ha : a ≤ 18446744073709551615) (hb : b ≤ 18446744073709551615) : ∃ z : Nat, bits .or .u64 (a : Int) (b : Int) = (z : Int) ∧ z ≤ 18446744073709551615 := by
  refine ⟨a ||| b, u64_or_nat a b (by omega) (by omega), ?_⟩
  have := Nat.or_lt_two_pow (n := 64) (show a < 2 ^ 64 by omega) (show b < 2 ^ 64 by omega)
  omega
theorem cell_off {w : World} {g p q : Nat} {u v : Value} (h : w.cell? ⟨g, q, none⟩ = some v) (hne : p ≠ q) : (w.setCell ⟨g, p, none⟩ u).cell? ⟨g, q, none⟩ = some v := by
  unfold World.cell? at h ⊢
  simp only [World.setCell, Array.getElem?_modify]
  cases hg : w.heap[g]? with
  | none => rw [hg] at h; cases h
  | some o =>
    rw [hg] at h
    cases o with
    | cells c t f =>
      simp only [Option.isSome_none, Bool.false_eq_true, if_false, if_true, Option.map_some] at h ⊢
      rw [Array.getElem?_setIfInBounds, if_neg hne]
      exact h
    | _ => cases h
theorem cell_offD {w : World} {g p q : Nat} {u v : Value} (h : w.cell? ⟨g, q, none⟩ = some v) (hne : p ≠ q) : (w.setCell ⟨g, p, none⟩ u).drew.cell? ⟨g, q, none⟩ = some v := cell_off h hne
/-- where the document's tables stand among the builder's -/
theorem rt_full {xs : List L6} (base : Nat) (hr : refuF 0 xs = 0) : Rt (tsU [(0, 0)] (units xs)) (buildU base bst0 (units xs)) ∧ Cl base (buildU base bst0 (units xs)) := ⟨rt_rows hr (cl0 base) up0 rt0, (rows_good hr (cl0 base) up0).1⟩
theorem Rt.one {ts : List (Nat × Nat)} {s : Bst} (h : Rt ts s) {lv k i : Nat} (hi : ts[i]? = some (lv, k)) (hl : lv = 1 ∨ lv = 2) : ∀ j, ts[j]? = some (lv, k) → j = i := by
  intro j hj
  rcases h.mem i lv k hi with ⟨_, e, _⟩ | ⟨e, _, e2⟩ | ⟨e, _, e2⟩
  · omega
  · rcases h.mem j lv k hj with ⟨_, f, _⟩ | ⟨f, _, f2⟩ | ⟨f, _, f2⟩ <;> omega
  · rcases h.mem j lv k hj with ⟨_, f, _⟩ | ⟨f, _, f2⟩ | ⟨f, _, f2⟩ <;> omega
theorem tsStep_mem {ts : List (Nat × Nat)} {big : Bool} {b : Nat} {y : Nat × Nat} (h : y ∈ ts) : y ∈ tsStep ts big b := by
  have h1 : y ∈ ts1 ts (b / 512) := by
    unfold ts1
    split
    · exact h
    · simp [h]
  rw [tsStep_eq]
  split
  · exact h1
  · exact ts2_keeps h1
theorem tsU_mem : ∀ {us : List Un} {ts : List (Nat × Nat)} {y : Nat × Nat}, y ∈ ts → y ∈ tsU ts us
  | [], _, _, h => h
  | u :: us, ts, y, h => tsU_mem (us := us) (tsStep_mem h)
theorem tsU_has : ∀ {us : List Un} {ts : List (Nat × Nat)} {u : Un}, u ∈ us → (1, u.v / 2097152 / 512) ∈ tsU ts us ∧ (u.big = false → (2, u.v / 2097152) ∈ tsU ts us)
  | [], _, _, h => by cases h
  | x :: us, ts, u, h => by
    rcases List.mem_cons.1 h with rfl | h
    · have e : tsU ts (u :: us) = tsU (tsStep ts u.big (u.v / 2097152)) us := rfl
      rw [e]
      constructor
      · refine tsU_mem ?_
        rw [tsStep_eq]
        split
        · exact ts1_mem _ _
        · exact ts2_keeps (ts1_mem _ _)
      · intro hb
        refine tsU_mem ?_
        rw [tsStep_eq, if_neg (by rw [hb]; decide)]
        exact ts2_mem _ _
    · exact tsU_has (ts := tsStep ts x.big (x.v / 2097152)) h
theorem unit_mem {xs : List L6} {x : L6} (hx : x ∈ xs) {c : Nat} (hc : c < cntU x) : unitAt x c ∈ units xs := List.mem_flatMap.2 ⟨x, hx, List.mem_map.2 ⟨c, List.mem_range.2 hc, rfl⟩⟩
theorem find_at1 {ts : List (Nat × Nat)} {s : Bst} (h : Rt ts s) {lv q : Nat} (hl : lv = 1 ∨ lv = 2) (hm : (lv, q) ∈ ts) : ∃ I, I < ts.length ∧ ts[I]? = some (lv, q) ∧ ∀ j, ts[j]? = some (lv, q) → j = I := by
  obtain ⟨I, hI⟩ := List.mem_iff_getElem?.1 hm
  exact ⟨I, (List.getElem?_eq_some_iff.1 hI).1, hI, h.one hI hl⟩
/-- an entry of the document's tables -/
theorem OwnQ.ent {w : World} {base g k cap : Nat} {ts : List (Nat × Nat)} {E : Nat → Nat} (h : OwnQ w base (.slice (some ⟨g, 0, none⟩) k cap) ts E) (hk : ts.length = k) {i j : Nat} (hi : i < k) (hj : j < 512) : w.cell? ⟨g, i * 514 + 2 + j, none⟩ = some (.int .u64 (E (i * 512 + j) : Int)) := by
  subst hk
  have d := h.cell (i := i) (r := j + 2) hi (by omega)
  unfold cq at d
  rw [if_neg (by omega), if_neg (by omega), show j + 2 - 2 = j by omega] at d
  rw [show i * 514 + 2 + j = i * 514 + (j + 2) by omega]
  exact d
theorem OwnQ.put {w : World} {base g k cap : Nat} {ts : List (Nat × Nat)} {E : Nat → Nat} (h : OwnQ w base (.slice (some ⟨g, 0, none⟩) k cap) ts E) (hk : ts.length = k) {i j : Nat} (hi : i < k) (hj : j < 512) (x : Nat) : OwnQ (w.setCell ⟨g, i * 514 + 2 + j, none⟩ (.int .u64 (x : Int))) base (.slice (some ⟨g, 0, none⟩) k cap) ts (putM E (i * 512 + j) x) := by
  subst hk
  rw [show i * 514 + 2 + j = i * 514 + (j + 2) by omega]
  exact h.set hi hj x
theorem OwnQ.put0 {w : World} {base g k cap : Nat} {ts : List (Nat × Nat)} {E : Nat → Nat} (h : OwnQ w base (.slice (some ⟨g, 0, none⟩) k cap) ts E) (hk : ts.length = k) {j : Nat} (hi : 0 < k) (hj : j < 512) (x : Nat) : OwnQ (w.setCell ⟨g, 2 + j, none⟩ (.int .u64 (x : Int))) base (.slice (some ⟨g, 0, none⟩) k cap) ts (putM E (0 * 512 + j) x) := by
  have := h.put hk hi hj x
  rwa [show 0 * 514 + 2 + j = 2 + j by omega] at this
theorem OwnQ.ent0 {w : World} {base g k cap : Nat} {ts : List (Nat × Nat)} {E : Nat → Nat} (h : OwnQ w base (.slice (some ⟨g, 0, none⟩) k cap) ts E) (hk : ts.length = k) {j : Nat} (hi : 0 < k) (hj : j < 512) : w.cell? ⟨g, 2 + j, none⟩ = some (.int .u64 (E (0 * 512 + j) : Int)) := by
  have := h.ent hk hi hj
  rwa [show 0 * 514 + 2 + j = 2 + j by omega] at this
end Go.Proofs.Ytgjamnhepbblhaa
