import Derived.Test.YtgjamnhepbblhaaPk19
import Derived.BigQuiet
import Derived.Test.YtgjamnhepbblhaaPk25
import Derived.Test.YtgjamnhepbblhaaPk12
/- Pages: Runs of any rows, the walk. Own work. -/
namespace Go.Proofs.Ytgjamnhepbblhaa
open Go.RowKit Wk
set_option linter.unusedVariables false
/-- the cells of the last one of a list of rows -/
def Y6 (w : World) (g k : Nat) (y : L6) : Prop := w.cell? ⟨g, k * 6, none⟩ = some (.int .u64 (y.v : Int)) ∧ w.cell? ⟨g, k * 6 + 1, none⟩ = some (.int .u64 (y.p : Int)) ∧ w.cell? ⟨g, k * 6 + 2, none⟩ = some (.int .i64 y.n) ∧ w.cell? ⟨g, k * 6 + 3, none⟩ = some (.bool y.big) ∧ w.cell? ⟨g, k * 6 + 4, none⟩ = some (.bool y.wr) ∧ w.cell? ⟨g, k * 6 + 5, none⟩ = some (.bool y.ex)
theorem OwnL.y6 {w : World} {base g k c : Nat} {bs : List L6} {y : L6} (h : OwnL w base (.slice (some ⟨g, 0, none⟩) (k + 1) c) (bs ++ [y])) (hk : bs.length = k) : Y6 w g k y := by
  obtain ⟨g', c', e, _, _, _, hc, _, _⟩ := h.last
  cases e
  exact ⟨hc 0 (by omega), hc 1 (by omega), hc 2 (by omega), hc 3 (by omega), hc 4 (by omega), hc 5 (by omega)⟩
theorem OwnL.put2 {w : World} {base g k c : Nat} {bs : List L6} {y : L6} (h : OwnL w base (.slice (some ⟨g, 0, none⟩) (k + 1) c) (bs ++ [y])) (hk : bs.length = k) (u : Int) : OwnL (w.setCell ⟨g, k * 6 + 2, none⟩ (.int .i64 u)) base (.slice (some ⟨g, 0, none⟩) (k + 1) c) (bs ++ [⟨y.v, y.p, u, y.big, y.wr, y.ex⟩]) ∧ base ≤ g ∧ w.frozen? ⟨g, k * 6 + 2, none⟩ = false := by
  obtain ⟨g', c', e, _, h1, _, _, hf, hs⟩ := h.last
  cases e
  exact ⟨hs u, h1, hf _⟩
/-- where Runs stands behind a call that only makes memory -/
theorem goes_2 {w0 w : World} {X base g k c : Nat} {y x : L6} {bs : List L6} (hk : bs.length = k) (hX : LfAt w X x) (hO : OwnL w base (.slice (some ⟨g, 0, none⟩) (k + 1) c) (bs ++ [y])) (hb : Below base w0 w) (hB : base ≤ w.heap.size) (hy : y.fine) : Calls Try.prog 36 #[.agg #[.int .u64 (y.v : Int), .int .u64 (y.p : Int), .int .i64 y.n, .bool y.big, .bool y.wr, .bool y.ex], .agg #[.int .u64 (x.v : Int), .int .u64 (x.p : Int), .int .i64 x.n, .bool x.big, .bool x.wr, .bool x.ex]] w fun e w' => e = .returned (.bool (goesF y x)) ∧ D6 w' X x.v x.p x.n x.big x.wr x.ex ∧ Y6 w' g k y ∧ Hid (LfAt w' X x) ∧ Hid (OwnL w' base (.slice (some ⟨g, 0, none⟩) (k + 1) c) (bs ++ [y])) ∧ Hid (Below base w0 w') := by
  refine (goes_any (x := x) hy w).mono fun _ _ ⟨e, b⟩ => ⟨e, (hX.below b).cells, (hO.below b).y6 hk, hX.below b, hO.below b, hb.trans (b.mono hB)⟩
theorem bdq6 {B : Nat} {a w : World} (h : Below B a w) (n : Nat) : Below B a (w.drewN n) := h.trans ⟨rfl, rfl, rfl, Nat.le_refl _, fun _ _ => rfl⟩
set_option maxRecDepth 100000 in
set_option maxHeartbeats 4000000 in
theorem runs_any {w : World} {v : Value} {xs : List L6} (h : Lv w v xs) (hl : xs.length ≤ 1000000) : Calls Try.prog 18 #[v] w fun e w' => ∃ u, e = .returned u ∧ OwnL w' w.heap.size u (if refuF 0 xs ≠ 0 then [] else runsF [] xs) ∧ Below w.heap.size w w' := by
  have HR := Lib.hid h
  have HRf := Lib.hid (prefusal_any h)
  obtain ⟨ao, cap, rfl, h1, h2, h3, h9⟩ := h
  clear h9
  unfold maxLen at h2
  obtain ⟨n, hn⟩ : ∃ n, xs.length = n := ⟨_, rfl⟩
  have HN := Lib.hid hn
  have HX : Hid (∀ x ∈ xs, L6.ok x) := h3
  rw [hn] at h1 hl HRf ⊢
  obtain ⟨er, her⟩ : ∃ e, refuF 0 xs = e := ⟨_, rfl⟩
  have HZ0 := Lib.hid her
  rw [her] at HRf ⊢
  clear hn h3 her
  by_cases h0 : er ≠ 0
  · rw [if_pos h0]
    have h0 : ¬ er = 0 := h0
    go_enter Try.func18, Try.ntmps18
    go_wp2_with fail
    refine HRf.out.mono ?_
    rintro e w1 ⟨rfl, hb⟩
    have HB1 := Lib.hid hb
    clear hb HRf
    go_wp2_with fail
    go_ret
    exact ⟨_, rfl, OwnL.nil _ _, HB1.out⟩
  · obtain rfl : er = 0 := by omega
    rw [if_neg (by decide)]
    obtain ⟨RV, hRV⟩ : ∃ R, runsF [] xs = R := ⟨_, rfl⟩
    rw [hRV]
    have HR0 : Hid (runsF [] (xs.drop 0) = RV) := hRV
    have HZ1 : Hid (refuF 0 (xs.drop 0) = 0) := HZ0.out
    clear h0 hRV HZ0
    go_enter Try.func18, Try.ntmps18
    go_wp2_with fail
    refine HRf.out.mono ?_
    rintro e w1 ⟨rfl, hb⟩
    have HB1 := Lib.hid hb
    clear hb HRf
    go_wp2_with fail
    go_loopw [3, 12] (fun rv iv wr => ∃ (i t : Nat) (acc : List L6) (ra : Option Addr) (rc : Nat), i ≤ n ∧ iv = .int .i64 (i : Int) ∧ rv = .slice ra acc.length rc ∧ acc.length ≤ i ∧ Hid (OwnL wr w.heap.size (.slice ra acc.length rc) acc) ∧ Hid (runsF acc (xs.drop i) = RV) ∧ Hid (refuF t (xs.drop i) = 0) ∧ Hid (∀ y ∈ acc, y.fine) ∧ Hid (Below w.heap.size w wr)) (fun _ iv _ => n - (intOf iv).toNat)
    case atStart => exact ⟨0, 0, [], none, 0, by omega, rfl, rfl, by simp, OwnL.nil _ _, HR0, HZ1, (fun y hy => by cases hy), HB1⟩
    case round =>
      clear HB1 HR0 HZ1
      obtain ⟨i, t, acc, ra, rc, hi, rfl, rfl, hai, HO, HE, HZ, HF, HB⟩ := hrel
      by_cases hin : i < n
      · have hix : i < xs.length := by rw [HN.out]; exact hin
        have ji : (i : Int) < (n : Int) := by omega
        have hw1 : IntKind.i64.wrap ((i : Int) + 1) = ((i + 1 : Nat) : Int) := by rw [IntKind.wrap_i64]; omega
        obtain ⟨_, _, e', _, _, _, hc⟩ := HR.out.below HB.out
        simp only [Value.slice.injEq] at e'
        obtain ⟨rfl, e9, rfl⟩ := e'
        clear e9
        obtain ⟨b, of, rfl, c0, c1, c2, c3, c4, c5⟩ := hc i hix
        have HD : Hid (runsF acc (xs[i] :: xs.drop (i + 1)) = RV) := by
          have := HE.out
          rw [List.drop_eq_getElem_cons hix] at this
          exact this
        have hzd : refuF t (xs[i] :: xs.drop (i + 1)) = 0 := by
          have := HZ.out
          rw [List.drop_eq_getElem_cons hix] at this
          exact this
        have HK : Hid (L6.ok xs[i]) := HX.out xs[i] (List.getElem_mem _)
        clear hc HE HZ
        generalize xs[i] = x at *
        obtain ⟨ha0, ht, hzr⟩ := refuF_zero hzd
        have HZr := Lib.hid hzr
        have HXf : Hid (x.fine) := by
          obtain ⟨z1, z2, z3, z4, z5, z6⟩ := aloneF_zero ha0
          exact ⟨z1, z4, z5⟩
        clear hzd ha0 ht hzr
        have HL := Lib.hid (LfAt.new' wr x)
        have HBl := Lib.hid (lf_below' wr x)
        have HXw : Hid (w.heap.size ≤ wr.heap.size) := HB.out.size
        rcases List.eq_nil_or_concat acc with he | ⟨bs, y, he⟩
        · subst he
          simp only [List.length_nil] at *
          have HD2 : Hid (runsF ([] ++ [x]) (xs.drop (i + 1)) = RV) := HD.out
          have HO0 := Lib.hid (HO.out.below HBl.out)
          have HB0 := Lib.hid (HB.out.trans (HBl.out.mono HB.out.size))
          clear HD HO HF HB HBl HK
          go_upto_region 8 with fail
          generalize (wr.alloc (.cells #[.int .u64 (x.v : Int), .int .u64 (x.p : Int), .int .i64 x.n, .bool x.big, .bool x.wr, .bool x.ex] 34)) = W0 at *
          clear c0 c1 c2 c3 c4 c5
          first | (go_quiet (fail)) | fail
          all_goals
            have HL1 : Hid (LfAt (W0.drewN nq) wr.heap.size x) := HL.out
            have HO1 : Hid (OwnL (W0.drewN nq) w.heap.size (.slice ra 0 rc) []) := HO0.out
            have HB1 : Hid (Below w.heap.size w (W0.drewN nq)) := bdq6 HB0.out nq
            clear HL HO0 HB0
            generalize (W0.drewN nq) = W1 at *
            obtain ⟨c0, c1, c2, c3, c4, c5⟩ := HL1.out.cells
            have HOA := Lib.hid (HO1.out.below (lf_below' W1 x))
            have HBK : Hid ((W1.alloc (.cells #[.int .u64 (x.v : Int), .int .u64 (x.p : Int), .int .i64 x.n, .bool x.big, .bool x.wr, .bool x.ex] 34)).heap[W1.heap.size]? = some (.cells (encL x).toArray 34 (0, 0))) := heap_alloc_new W1 _
            have HBA := Lib.hid (HB1.out.trans ((lf_below' W1 x).mono HB1.out.size))
            have HLy : Hid ((([] : List L6).length + 1) * 60 ≤ 140737488355328) := by show (([] : List L6).length + 1) * 60 ≤ 140737488355328; decide
            go_wp2_with (at_builtin; refine wpList_appendL6 (xs := ([] : List L6)) (base := w.heap.size) rfl (.tmp 39) (.tmp 41) rfl HOA.out rfl rfl HBK.out HLy.out HBA.out.size ?_; intro v2 w2 HO2 HG2 HL2; obtain ⟨va2, vc2, hv2⟩ := HO2.out.form; subst hv2)
            have HB2 : Hid (Below w.heap.size w w2) := HBA.out.grown HG2.out HBA.out.size (fun k e => (HOA.out.lt k e).1)
            go_roundw
            case rel => exact ⟨i + 1, x.v + x.n.toNat * 4096, ([] : List L6) ++ [x], va2, vc2, by omega, rfl, rfl, by simp, HO2, HD2, HZr, (fun z hz => (List.mem_append.1 hz).elim (fun hz => by cases hz) (fun hz => by rw [List.mem_singleton.1 hz]; exact HXf.out)), HB2⟩
            case measure => simp [intOf]; omega
        · rw [List.concat_eq_append] at he
          subst he
          have hlen : (bs ++ [y]).length = bs.length + 1 := by simp
          obtain ⟨k, hk⟩ : ∃ k, bs.length = k := ⟨_, rfl⟩
          obtain ⟨g, c', e8, hcap, hg1, hg2, _, _, _⟩ := HO.out.last
          rw [hlen, hk] at e8 HO hai
          simp only [Value.slice.injEq] at e8
          obtain ⟨rfl, e7, rfl⟩ := e8
          clear e7
          rw [hk] at hcap
          rw [hlen, hk]
          have HKb := Lib.hid hk
          have HYf : Hid y.fine := HF.out y (List.mem_append_right _ (List.mem_singleton.2 rfl))
          have hyn : 1 ≤ y.n ∧ y.n ≤ 1073741824 := by
            obtain ⟨a1, a2, a3⟩ := HYf.out
            omega
          have hxn : 1 ≤ x.n ∧ x.n ≤ 1073741824 := by
            obtain ⟨a1, a2, a3⟩ := HXf.out
            omega
          have HO0 := Lib.hid (HO.out.below HBl.out)
          have HB0 := Lib.hid (HB.out.trans (HBl.out.mono HB.out.size))
          have hwl : IntKind.i64.wrap (((k + 1 : Nat) : Int) - 1) = (k : Int) := by rw [IntKind.wrap_i64]; omega
          have hwl2 : IntKind.i64.wrap ((k : Int) + 1 - 1) = (k : Int) := by rw [IntKind.wrap_i64]; omega
          have hwn : IntKind.i64.wrap (y.n + x.n) = y.n + x.n := by rw [IntKind.wrap_i64]; omega
          have jk : (k : Int) < ((k + 1 : Nat) : Int) := by omega
          have jk2 : (k : Int) < (k : Int) + 1 := by omega
          have jk0 : (0 : Int) ≤ (k : Int) := by omega
          have dk : decide ((0 : Int) ≤ (k : Int)) = true := decide_eq_true jk0
          have hDD := HD.out
          rw [runsF_some] at hDD
          have HD3 := Lib.hid hDD
          clear HO HB HBl HK HD hDD hlen hk hyn hxn
          go_upto_region 8 with fail
          generalize (wr.alloc (.cells #[.int .u64 (x.v : Int), .int .u64 (x.p : Int), .int .i64 x.n, .bool x.big, .bool x.wr, .bool x.ex] 34)) = W0 at *
          clear c0 c1 c2 c3 c4 c5
          obtain ⟨c0, c1, c2, c3, c4, c5⟩ := HL.out.cells
          obtain ⟨z0, z1, z2, z3, z4, z5⟩ := HO0.out.y6 HKb.out
          have HGo := Lib.hid (goes_2 (w := W0.drew) HKb.out HL.out HO0.out HB0.out.drew HB0.out.size HYf.out)
          obtain ⟨gf, hgf⟩ : ∃ b, goesF y x = b := ⟨_, rfl⟩
          have HGf := Lib.hid hgf
          rw [hgf] at HGo HD3
          clear hgf
          go_region_held3 (fun w' => (w'.cell? ⟨wr.heap.size, 0, none⟩ = some (.int .u64 (x.v : Int)) ∧ w'.cell? ⟨wr.heap.size, 1, none⟩ = some (.int .u64 (x.p : Int)) ∧ w'.cell? ⟨wr.heap.size, 2, none⟩ = some (.int .i64 x.n) ∧ w'.cell? ⟨wr.heap.size, 3, none⟩ = some (.bool x.big) ∧ w'.cell? ⟨wr.heap.size, 4, none⟩ = some (.bool x.wr) ∧ w'.cell? ⟨wr.heap.size, 5, none⟩ = some (.bool x.ex)) ∧ w'.cell? ⟨g, k * 6, none⟩ = some (.int .u64 (y.v : Int)) ∧ w'.cell? ⟨g, k * 6 + 1, none⟩ = some (.int .u64 (y.p : Int)) ∧ w'.cell? ⟨g, k * 6 + 2, none⟩ = some (.int .i64 y.n) ∧ w'.cell? ⟨g, k * 6 + 3, none⟩ = some (.bool y.big) ∧ w'.cell? ⟨g, k * 6 + 4, none⟩ = some (.bool y.wr) ∧ w'.cell? ⟨g, k * 6 + 5, none⟩ = some (.bool y.ex)) (go_keep) (first | (go_at_call 36; refine HGo.out.mono ?_; rintro e W1 ⟨rfl, ⟨d0, d1, d2, d3, d4, d5⟩, ⟨f0, f1, f2, f3, f4, f5⟩, HL1, HO1, HB1⟩))
          all_goals
            clear HL HO0 HB0 HGo c0 c1 c2 c3 c4 c5 z0 z1 z2 z3 z4 z5
            cases gf with
            | true =>
              have HD4 : Hid (runsF (bs ++ [joinL y x]) (xs.drop (i + 1)) = RV) := by
                have := HD3.out
                rw [if_pos rfl] at this
                exact this
              obtain ⟨hO2, hgb, hff⟩ := HO1.out.put2 HKb.out (y.n + x.n)
              have HO2 := Lib.hid hO2
              have HB2 : Hid (Below w.heap.size w (W1.setCell ⟨g, k * 6 + 2, none⟩ (.int .i64 (y.n + x.n)))) := HB1.out.setCell hgb _
              have HJ : Hid (∀ z ∈ bs ++ [joinL y x], z.fine) := fun z hz => (List.mem_append.1 hz).elim (fun hz => HF.out z (List.mem_append_left _ hz)) (fun hz => by rw [List.mem_singleton.1 hz]; exact HYf.out.join HXf.out HGf.out)
              have hl2 : (bs ++ [joinL y x]).length = k + 1 := by rw [List.length_append, HKb.out]; rfl
              have HL2 := Lib.hid hl2
              clear hO2 hl2 hgb HD3 HO1 HB1 HL1
              go_wp2_with fail
              go_region
              all_goals
                have HO3 : Hid (OwnL (W1.setCell ⟨g, k * 6 + 2, none⟩ (.int .i64 (y.n + x.n))).drew w.heap.size (.slice (some ⟨g, 0, none⟩) (k + 1) rc) (bs ++ [joinL y x])) := HO2.out
                have HB3 : Hid (Below w.heap.size w (W1.setCell ⟨g, k * 6 + 2, none⟩ (.int .i64 (y.n + x.n))).drew) := HB2.out.drew
                clear HO2 HB2
                generalize (W1.setCell ⟨g, k * 6 + 2, none⟩ (.int .i64 (y.n + x.n))).drew = W3 at *
                go_wp2_with fail
                go_roundw
                case rel => exact ⟨i + 1, x.v + x.n.toNat * 4096, bs ++ [joinL y x], some ⟨g, 0, none⟩, rc, by omega, rfl, by rw [HL2.out], by rw [HL2.out]; omega, (by rw [HL2.out]; exact HO3), HD4, HZr, HJ, HB3⟩
                case measure => simp [intOf]; omega
            | false =>
              have HD2 : Hid (runsF (bs ++ [y] ++ [x]) (xs.drop (i + 1)) = RV) := by
                have := HD3.out
                rw [if_neg (by decide)] at this
                exact this
              have hl2 : (bs ++ [y]).length = k + 1 := by rw [List.length_append, HKb.out]; rfl
              clear HD3
              have HOA := Lib.hid (HO1.out.below (lf_below' W1 x))
              have HBK : Hid ((W1.alloc (.cells #[.int .u64 (x.v : Int), .int .u64 (x.p : Int), .int .i64 x.n, .bool x.big, .bool x.wr, .bool x.ex] 34)).heap[W1.heap.size]? = some (.cells (encL x).toArray 34 (0, 0))) := heap_alloc_new W1 _
              have HBA := Lib.hid (HB1.out.trans ((lf_below' W1 x).mono HB1.out.size))
              have HLy : Hid (((bs ++ [y]).length + 1) * 60 ≤ 140737488355328) := by show ((bs ++ [y]).length + 1) * 60 ≤ 140737488355328; rw [hl2]; omega
              go_wp2_with (at_builtin; refine wpList_appendL6 (xs := (bs ++ [y])) (base := w.heap.size) rfl (.tmp 39) (.tmp 41) rfl HOA.out rfl rfl HBK.out HLy.out HBA.out.size ?_; intro v2 w2 HO2 HG2 HL2; obtain ⟨va2, vc2, hv2⟩ := HO2.out.form; subst hv2)
              have HB2 : Hid (Below w.heap.size w w2) := HBA.out.grown HG2.out HBA.out.size (fun k e => (HOA.out.lt k e).1)
              go_roundw
              case rel => exact ⟨i + 1, x.v + x.n.toNat * 4096, (bs ++ [y]) ++ [x], va2, vc2, by omega, rfl, by simp, by rw [List.length_append, hl2, List.length_singleton]; omega, HO2, HD2, HZr, (fun z hz => (List.mem_append.1 hz).elim (fun hz => HF.out z hz) (fun hz => by rw [List.mem_singleton.1 hz]; exact HXf.out)), HB2⟩
              case measure => simp [intOf]; omega
      · obtain rfl : i = n := by omega
        have HQ : Hid (acc = RV) := by
          have := HE.out
          rw [List.drop_eq_nil_of_le (by rw [HN.out]; exact Nat.le_refl _)] at this
          exact this
        go_wp2_with fail
        go_ret
        exact ⟨_, rfl, HQ.out ▸ HO.out, HB.out⟩
end Go.Proofs.Ytgjamnhepbblhaa
/- Pages: PagesAlike, the walk. Own work. -/
namespace Go.Proofs.Ytgjamnhepbblhaa
open Go.RowKit Wk
set_option linter.unusedVariables false
set_option maxRecDepth 20000 in
theorem not12 {b : Nat} (hb : b ≤ 18446744073709551615) : bits .andNot .u64 (b : Int) 4095 = ((b / 4096 * 4096 : Nat) : Int) := by
  have h := u64_andNot_nat b 4095 (by omega) (by decide)
  have h2 : b &&& (18446744073709551615 - 4095) = b / 4096 % 4503599627370496 * 4096 := land_mask b 12 52
  have h3 : bits .andNot .u64 (b : Int) 4095 = ((b &&& (18446744073709551615 - 4095) : Nat) : Int) := h
  rw [h3, h2, Nat.mod_eq_of_lt (Nat.div_lt_of_lt_mul (by omega))]
def lf1 : L6 := ⟨1073741824, 0, 1, false, false, false⟩
theorem lf1_tabs : tabsF 1 0 0 [lf1] = 3 := by decide
theorem lf1_refu : refuF 0 [lf1] = 0 := by decide
theorem lf1_why {b : Nat} (h4 : b % 4096 = 0) (hl : b < 2147483648) : whyF [lf1] b = 0 := by
  have hc : countF [lf1] = (3, 0) := by
    unfold countF
    rw [lf1_refu, lf1_tabs]
    rfl
  unfold whyF
  rw [hc, if_neg (by decide), if_neg (by omega), if_neg (by
    unfold winB
    rw [decide_eq_true (show b + 3 * 4096 ≤ 4294967296 by omega)]
    decide)]
theorem refu_all : ∀ {xs : List L6} {t : Nat}, refuF t xs = 0 → ∀ x ∈ xs, aloneF x = 0
  | [], _, _, x, hx => by cases hx
  | y :: ys, t, h, x, hx => by
    obtain ⟨h1, h2, h3⟩ := refuF_zero h
    rcases List.mem_cons.1 hx with rfl | hx
    · exact h1
    · exact refu_all h3 x hx
theorem alone_ok {x : L6} (h : aloneF x = 0) : L6.ok x ∧ 1 ≤ x.n ∧ x.n ≤ 134217728 := by
  obtain ⟨h1, h2, h3, h4, h5, h6⟩ := aloneF_zero h
  unfold L6.ok
  omega
/-- rows of the same leaves are built alike -/
theorem why_same {xs ys : List L6} {base : Nat} (hy : whyF xs base = 0) (hr : refuF 0 ys = 0) (hu : units ys = units xs) : whyF ys base = 0 ∧ tabsF 1 0 0 ys = tabsF 1 0 0 xs ∧ bldM ys base = bldM xs base := by
  obtain ⟨h1, h2, h3, h4, h5⟩ := why_zero hy
  have ht : tabsF 1 0 0 ys = tabsF 1 0 0 xs := by rw [← bld_nx base hr, ← bld_nx base h1, hu]
  refine ⟨?_, ht, by unfold bldM; rw [hu]⟩
  have hc : countF ys = (tabsF 1 0 0 xs, 0) := by unfold countF; rw [if_neg (by omega), ht, if_neg (by omega)]
  unfold whyF
  rw [hc, if_neg (show ¬ ((0 : Int) ≠ 0) by decide), if_neg (by omega), if_neg (by unfold winB; rw [decide_eq_true h5]; decide)]
theorem count_same {xs ys : List L6} {base : Nat} (hy : whyF xs base = 0) (hr : refuF 0 ys = 0) (hu : units ys = units xs) : countF ys = (tabsF 1 0 0 xs, 0) := by
  obtain ⟨h1, h2, h3, h4, h5⟩ := why_zero hy
  have ht : tabsF 1 0 0 ys = tabsF 1 0 0 xs := by rw [← bld_nx base hr, ← bld_nx base h1, hu]
  unfold countF
  rw [if_neg (by omega), ht, if_neg (by omega)]
def BigOk (s : Bst) : Prop := ∀ b, s.L1 b ≠ 0 → s.L1 b < 18446744073709551616 ∧ ∃ F wr ex, entB (s.L1 b) 1 = ((F, false, true, wr, ex), 0)
theorem step_bigok {base : Nat} {s : Bst} (h : BigOk s) {u : Un} (hu : u.big = true → u.p % 2097152 = 0 ∧ u.p < 4294967296) : BigOk (stepU base s u) := by
  obtain ⟨_, _, r3, _, _, _⟩ := step1_rest (base := base) (s := s) (v := u.v)
  obtain ⟨_, _, q3, _, _, _⟩ := step2_rest (base := base) (s := step1 base s u.v) (v := u.v)
  unfold stepU downS leafS
  by_cases hb : u.big = true
  · rw [if_pos hb, if_pos hb]
    obtain ⟨h1, h2⟩ := hu hb
    intro b
    simp only
    rw [r3]
    by_cases e : b = u.v / 2097152
    · rw [e, putM_at]
      intro _
      have hv : u.val = u.p + (1 + nbit u.wr 2 + nbit u.ex 4 + nbit true 8) := by unfold Un.val; rw [hb]
      have hf := fl_lt true u.wr u.ex
      refine ⟨by rw [hv]; omega, u.p, u.wr, u.ex, ?_⟩
      rw [hv]
      exact ent_big h1 h2 u.wr u.ex
    · rw [putM_ne _ e]
      exact h b
  · rw [if_neg hb, if_neg hb]
    intro b
    simp only
    rw [q3, r3]
    exact h b
theorem build_bigok {base : Nat} : ∀ {us : List Un} {s : Bst}, BigOk s → (∀ u ∈ us, u.big = true → u.p % 2097152 = 0 ∧ u.p < 4294967296) → BigOk (buildU base s us)
  | [], _, h, _ => h
  | u :: us, s, h, hu => build_bigok (us := us) (s := stepU base s u) (step_bigok h (hu u (by simp))) (fun v hv => hu v (by simp [hv]))
theorem units_bigok {xs : List L6} {t : Nat} (h : refuF t xs = 0) : ∀ u ∈ units xs, u.big = true → u.p % 2097152 = 0 ∧ u.p < 4294967296 := by
  intro u hu hb
  obtain ⟨x, hx, hux⟩ := List.mem_flatMap.1 hu
  obtain ⟨i, hi, rfl⟩ := List.mem_map.1 hux
  have hxa := refu_all h x hx
  obtain ⟨a1, a2, a3, a4⟩ := unitAt_ok hxa (List.mem_range.1 hi)
  obtain ⟨h1, h2, h3, h4, h5, h6⟩ := aloneF_zero hxa
  have hl : (unitAt x i).len = 2097152 := by unfold Un.len; rw [if_pos hb]
  rw [hl] at a2 a4
  exact ⟨a2, by omega⟩
theorem eachN_snoc (x : L6) (i n : Nat) : eachN x i (n + 1) = eachN x i n ++ [rowU (unitAt x (i + n))] := by
  unfold eachN
  rw [List.range_succ, List.map_append]
  rfl
theorem eachF_app (xs ys : List L6) : eachF (xs ++ ys) = eachF xs ++ eachF ys := by
  unfold eachF
  rw [units_app, List.map_append]
theorem eachF_take {xs : List L6} {i : Nat} (hi : i < xs.length) : eachF (xs.take (i + 1)) = eachF (xs.take i) ++ eachN xs[i] 0 (cntU xs[i]) := by
  rw [List.take_succ_eq_append_getElem hi, eachF_app, eachF_cons]
  simp [eachF, units]
end Go.Proofs.Ytgjamnhepbblhaa
