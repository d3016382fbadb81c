/- The document's own Where. Own work. -/
import Derived.Test.YtmaahompmgmkfaaRgOff
namespace Go.Proofs.Ytmaahompmgmkfaa
open Go.RowKit Go.Maps Go.Proofs.Ytmaahompmgmkfaa.Sp
theorem spotV_some (kind : Int) (i : Nat) (o : Int) : spotV kind (some (i, o)) = .tuple #[.agg #[.int .i64 kind, .int .i64 (i : Int), .int .u64 o], .bool true] := rfl
set_option maxRecDepth 100000 in
set_option maxHeartbeats 8000000 in
theorem rwhere_any {w : World} {m : Nat} {vr vd vp : Value} {rs ds : List Sp} {L S X : Nat} {a : Int} (h : RBox w m vr vd vp L S X) (hr : U64.SV w vr rs) (hd : U64.SV w vd ds) (hs : Sane (rs ++ ds)) (hl : rs.length + ds.length ≤ 64) (ha : 0 ≤ a ∧ a ≤ 18446744073709551615) :
    Calls Try.prog 10 #[.pointer (some ⟨m, 0, none⟩), .int .u64 a] w fun e w' => e = .returned (whereV rs ds a) ∧ Below w.heap.size w w' := by
  have HB0 : Hid (Below w.heap.size w (w.alloc (Obj.cells #[.int .i64 0, .int .i64 0, .int .u64 0] 37))) := (Below.refl _ _).alloc (Nat.le_refl _) _
  have HX0 : Hid (Box3 (w.alloc (Obj.cells #[.int .i64 0, .int .i64 0, .int .u64 0] 37)) w.heap.size (.int .i64 0) (.int .i64 0) (.int .u64 0)) := heap_alloc_new w _
  have HM0 : Hid (RBox (w.alloc (Obj.cells #[.int .i64 0, .int .i64 0, .int .u64 0] 37)) m vr vd vp L S X) := h.below HB0.out
  have HAl : Hid (Calls Try.prog 21 #[.agg #[vr, vd]] (w.alloc (Obj.cells #[.int .i64 0, .int .i64 0, .int .u64 0] 37)) fun e w' => ∃ a n c, e = .returned (.slice a n c) ∧ Hid (Below (w.heap.size + 1) (w.alloc (Obj.cells #[.int .i64 0, .int .i64 0, .int .u64 0] 37)) w') ∧ Hid (U64.SV w' (.slice a n c) (rs ++ ds)) ∧ Hid (∀ j, (Value.slice a n c).ownBlock = some j → w.heap.size + 1 ≤ j)) := by
    refine (all_any (hr.below HB0.out (Nat.le_refl _)) (hd.below HB0.out (Nat.le_refl _)) (by omega)).mono ?_
    rintro e w' ⟨a, n, c, rfl, hb, hs, hj⟩
    exact ⟨a, n, c, rfl, hb.out.mono (by simp), hs, fun j e => by have := hj.out j e; simp at this; exact this⟩
  have HS : Hid (Sane (rs ++ ds)) := hs
  obtain ⟨ar, cr, rfl, hcr, hmr, _, _, _⟩ := hr
  unfold maxLen at hmr
  obtain ⟨c0, c1, _, _, _, _⟩ := HM0.out.cells
  have hml0 : m < w.heap.size := h.lt
  have hl2 : (rs ++ ds).length ≤ 64 := by rw [List.length_append]; exact hl
  have HLr : Hid (rs.length ≤ (rs ++ ds).length) := by show _ ≤ _; rw [List.length_append]; omega
  obtain ⟨ha0, ha1⟩ := ha
  have HWn : Hid ((∀ x ∈ rs ++ ds, ¬ inR a x) → whereV rs ds a = spotV 2 none) := where_none
  have HWr : Hid (∀ k (hk : k < (rs ++ ds).length), k < rs.length → (∀ x ∈ (rs ++ ds).take k, ¬ inR a x) → inR a (rs ++ ds)[k] → whereV rs ds a = spotV 1 (some (k, a - (rs ++ ds)[k].1))) := fun k hk => where_ram hk
  have HWd : Hid (∀ k (hk : k < (rs ++ ds).length), ¬ k < rs.length → (∀ x ∈ (rs ++ ds).take k, ¬ inR a x) → inR a (rs ++ ds)[k] → whereV rs ds a = spotV 2 (some (k - rs.length, a - (rs ++ ds)[k].1))) := fun k hk => where_dev hk
  generalize rs ++ ds = LL at *
  clear h hd hs hl
  go_enter Try.func10, Try.ntmps10
  go_wp2_with fail
  refine HAl.out.mono ?_
  rintro e w1 ⟨al, nl, cl, rfl, HB1, HS1, HJ1⟩
  obtain ⟨al', cl', ev, hcl, hml, _⟩ := id HS1.out
  simp only [Value.slice.injEq] at ev
  obtain ⟨rfl, hnl, rfl⟩ := ev
  have HN : Hid (nl = LL.length) := hnl
  have hn40 : nl ≤ 64 := by rw [hnl]; exact hl2
  have hcl' : nl ≤ cl := by rw [hnl]; exact hcl
  have HBw : Hid (Below w.heap.size w w1) := HB0.out.trans (HB1.out.mono (Nat.le_succ _))
  have HX1 : Hid (Box3 w1 w.heap.size (.int .i64 0) (.int .i64 0) (.int .u64 0)) := (HB1.out.block w.heap.size (Nat.lt_succ_self _)).trans HX0.out
  have HM1 : Hid (RBox w1 m (.slice ar rs.length cr) vd vp L S X) := (HB1.out.block m (Nat.lt_succ_of_lt hml0)).trans HM0.out
  unfold maxLen at hml
  clear hnl hcl HAl c0 c1 hl2
  go_wp2_with fail
  go_loopw [7] (fun kv wr => ∃ k : Nat, k ≤ nl ∧ kv = .int .i64 (k : Int) ∧ Hid (∀ x ∈ LL.take k, ¬ inR a x) ∧ Hid (Below w1.heap.size w1 wr)) (fun kv _ => nl - (intOf kv).toNat)
  case atStart => exact ⟨0, Nat.zero_le _, rfl, fun x hx => by simp at hx, Below.refl _ _⟩
  case round =>
    obtain ⟨k, hk, rfl, HI, HB⟩ := hrel
    have HX : Hid (Box3 wr w.heap.size (.int .i64 0) (.int .i64 0) (.int .u64 0)) := (HB.out.block w.heap.size (Array.getElem?_eq_some_iff.1 HX1.out).1).trans HX1.out
    have HBe : Hid (Below w.heap.size w wr) := HBw.out.trans (HB.out.mono HBw.out.size)
    obtain ⟨x0, x1, x2, f0, f1, f2⟩ := HX.out.cells
    by_cases hlt : k < nl
    · have hkL : k < LL.length := by rw [← HN.out]; exact hlt
      have hsan := HS.out LL[k] (List.getElem_mem _)
      have HTk : Hid (LL.take (k + 1) = LL.take k ++ [LL[k]]) := List.take_succ_eq_append_getElem hkL
      have HWr2 := Lib.hid (HWr.out k hkL)
      have HWd2 := Lib.hid (HWd.out k hkL)
      obtain ⟨_, _, e, _, _, _, _, h5⟩ := HS1.out.below HB.out (Nat.le_refl _)
      simp only [Value.slice.injEq] at e
      obtain ⟨rfl, hzz, rfl⟩ := e
      clear hzz
      obtain ⟨g, off, rfl, d0, d1⟩ := h5 k hkL
      clear h5
      generalize LL[k] = xx at *
      obtain ⟨b, s⟩ := xx
      simp only at d0 d1 hsan
      obtain ⟨b0, b1, b2⟩ := hsan
      have jk : (k : Int) < (nl : Int) := by omega
      obtain ⟨c0, c1, _, _, _, _⟩ := (HM1.out.below HB.out).cells
      by_cases q1 : b ≤ a
      · have q1d : decide (b ≤ a) = true := decide_eq_true q1
        by_cases q2 : a - b < s
        · have q2d : decide (a - b < s) = true := decide_eq_true q2
          have hin : inR a (b, s) := ⟨q1, by show a < b + s; omega⟩
          by_cases hr : k < rs.length
          · have HE : Hid (whereV rs ds a = .tuple #[.agg #[.int .i64 1, .int .i64 (k : Int), .int .u64 (a - b)], .bool true]) := HWr2.out hr HI.out hin
            have hrd : (k : Int) < (rs.length : Int) := by omega
            clear HWr2 HWd2 HTk hin
            go_wp2_with fail
            go_quiet (fail)
            go_wp2_with fail
            obtain ⟨e0, e1, e2, _⟩ := Box3.cells (w := (((wr.drewN nq).setCell ⟨w.heap.size, 0, none⟩ (.int .i64 1)).setCell ⟨w.heap.size, 1, none⟩ (.int .i64 (k : Int))).setCell ⟨w.heap.size, 2, none⟩ (.int .u64 (a - b))) (Box3.set (w := wr.drewN nq) HX.out (.int .i64 1) (.int .i64 (k : Int)) (.int .u64 (a - b)))
            refine bodyPost_ret (v := .tuple #[.agg #[.int .i64 1, .int .i64 (k : Int), .int .u64 (a - b)], .bool true]) (by simp [results, Try.results10, go_sem, e0, e1, e2]) rfl ?_
            exact ⟨by rw [HE.out], (((U64.below_drewN' HBe.out _).setCell (p := ⟨w.heap.size, 0, none⟩) (Nat.le_refl _) _).setCell (p := ⟨w.heap.size, 1, none⟩) (Nat.le_refl _) _).setCell (p := ⟨w.heap.size, 2, none⟩) (Nat.le_refl _) _⟩
          · have HE : Hid (whereV rs ds a = .tuple #[.agg #[.int .i64 2, .int .i64 ((k - rs.length : Nat) : Int), .int .u64 (a - b)], .bool true]) := HWd2.out hr HI.out hin
            obtain ⟨r, hrr⟩ : ∃ r, r = rs.length := ⟨_, rfl⟩
            rw [← hrr] at c0 HE hr hcr
            clear hrr
            have hrk : r ≤ k := by omega
            have hrd : decide ((k : Int) < (r : Int)) = false := decide_eq_false (by omega)
            have hwr : IntKind.i64.wrap ((k : Int) - (r : Int)) = ((k - r : Nat) : Int) := by rw [IntKind.wrap_i64]; omega
            have hnn : ¬ (k : Int) < (r : Int) := by omega
            have hwa : IntKind.u64.wrap (a - b) = a - b := U64.wrap_in (by omega) (by omega)
            have hgn : g ≠ w.heap.size := by have := HJ1.out g rfl; omega
            have hmn : m ≠ w.heap.size := by omega
            clear HWr2 HWd2 HTk hin
            go_wp2_with fail
            go_quiet (fail)
            go_wp2_with fail
            go_region_held3 (fun w' => w'.cell? ⟨m, 0, none⟩ = some (.slice ar r cr) ∧ w'.cell? ⟨g, off + k * 2, none⟩ = some (.int .u64 b)) (first | exact ⟨(U64.set_other hmn).trans ((U64.set_other hmn).trans ((U64.set_other hmn).trans c0)), (U64.set_other hgn).trans ((U64.set_other hgn).trans ((U64.set_other hgn).trans d0))⟩ | go_keep) (fail)
            go_wp2_with fail
            obtain ⟨e0, e1, e2, _⟩ := Box3.cells (w := (((wr.drewN (nq + 1)).setCell ⟨w.heap.size, 0, none⟩ (.int .i64 2)).setCell ⟨w.heap.size, 1, none⟩ (.int .i64 ((k - r : Nat) : Int))).setCell ⟨w.heap.size, 2, none⟩ (.int .u64 (a - b))) (Box3.set (w := wr.drewN (nq + 1)) HX.out (.int .i64 2) (.int .i64 ((k - r : Nat) : Int)) (.int .u64 (a - b)))
            refine bodyPost_ret (v := .tuple #[.agg #[.int .i64 2, .int .i64 ((k - r : Nat) : Int), .int .u64 (a - b)], .bool true]) (by simp [results, Try.results10, go_sem, e0, e1, e2]) rfl ?_
            exact ⟨by rw [HE.out], (((U64.below_drewN' HBe.out _).setCell (p := ⟨w.heap.size, 0, none⟩) (Nat.le_refl _) _).setCell (p := ⟨w.heap.size, 1, none⟩) (Nat.le_refl _) _).setCell (p := ⟨w.heap.size, 2, none⟩) (Nat.le_refl _) _⟩
        · have q2d : decide (a - b < s) = false := decide_eq_false q2
          have HIn : Hid (∀ x ∈ LL.take (k + 1), ¬ inR a x) := fun x hx => by
            rw [HTk.out] at hx
            rcases List.mem_append.1 hx with hx | hx
            · exact HI.out x hx
            · rw [List.mem_singleton.1 hx]; simp only [inR]; omega
          clear HWr2 HWd2 HTk
          go_wp2_with fail
          go_quiet (fail)
          go_wp2_with fail
          go_roundw
          case rel => exact ⟨k + 1, by omega, by go_num, HIn, U64.below_drewN' HB.out _⟩
          case measure => simp [intOf]; omega
      · have q1d : decide (b ≤ a) = false := decide_eq_false q1
        have HIn : Hid (∀ x ∈ LL.take (k + 1), ¬ inR a x) := fun x hx => by
            rw [HTk.out] at hx
            rcases List.mem_append.1 hx with hx | hx
            · exact HI.out x hx
            · rw [List.mem_singleton.1 hx]; simp only [inR]; omega
        clear HWr2 HWd2 HTk
        go_wp2_with fail
        go_quiet (fail)
        go_wp2_with fail
        go_roundw
        case rel => exact ⟨k + 1, by omega, by go_num, HIn, U64.below_drewN' HB.out _⟩
        case measure => simp [intOf]; omega
    · obtain rfl : k = nl := by omega
      have HE : Hid (whereV rs ds a = .tuple #[.agg #[.int .i64 0, .int .i64 0, .int .u64 0], .bool false]) := HWn.out (fun x hx => HI.out x (by rw [HN.out, List.take_length]; exact hx))
      go_wp2_with fail
      obtain ⟨e0, e1, e2, _⟩ := Box3.cells (Box3.set HX.out (.int .i64 0) (.int .i64 0) (.int .u64 0))
      refine bodyPost_ret (v := .tuple #[.agg #[.int .i64 0, .int .i64 0, .int .u64 0], .bool false]) (by simp [results, Try.results10, go_sem, e0, e1, e2]) rfl ?_
      exact ⟨by rw [HE.out], ((HBe.out.setCell (p := ⟨w.heap.size, 0, none⟩) (Nat.le_refl _) _).setCell (p := ⟨w.heap.size, 1, none⟩) (Nat.le_refl _) _).setCell (p := ⟨w.heap.size, 2, none⟩) (Nat.le_refl _) _⟩
end Go.Proofs.Ytmaahompmgmkfaa
