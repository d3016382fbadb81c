import Derived.Test.YtgjamnhepbblhaaPk26
import Derived.Test.YtgjamnhepbblhaaPk29
import Derived.BigQuiet
/- Pages: the document's Runs, of any rows. Own work. -/
namespace Go.Proofs.Ytgjamnhepbblhaa
open Go.RowKit Wk
set_option linter.unusedVariables false
set_option maxRecDepth 100000 in
set_option maxHeartbeats 8000000 in
theorem rruns_any {w : World} {v : Value} {xs : List L6} (h : Lv w v xs) (hl : xs.length ≤ 1000000) : Calls Try.prog 15 #[v] w fun e w' => ∃ u, e = .returned u ∧ OwnL w' w.heap.size u (if refuF 0 xs ≠ 0 then [] else runsF [] xs) ∧ Below w.heap.size w w' := by
  have HR := Lib.hid h
  have HRf := Lib.hid (rrefuses_any h)
  obtain ⟨ao, cap, rfl, h1, h2, h3, h9⟩ := h
  clear h9
  unfold maxLen at h2
  obtain ⟨n, hn⟩ : ∃ n, xs.length = n := ⟨_, rfl⟩
  have HN := Lib.hid hn
  have HX : Hid (∀ x ∈ xs, L6.ok x) := h3
  rw [hn] at h1 hl HRf ⊢
  obtain ⟨er, her⟩ : ∃ e, refuF 0 xs = e := ⟨_, rfl⟩
  have HZ0 := Lib.hid her
  rw [her] at HRf ⊢
  clear hn h3 her
  by_cases h0 : er ≠ 0
  · rw [if_pos h0]
    have h0 : ¬ er = 0 := h0
    have jr : (er != 0) = true := by simpa using h0
    go_enter Try.func15, Try.ntmps15
    go_wp2_with fail
    refine HRf.out.mono ?_
    rintro e w1 ⟨rfl, hb⟩
    have HB1 := Lib.hid hb
    clear hb HRf
    go_wp2_with fail
    go_ret
    exact ⟨_, rfl, OwnL.nil _ _, HB1.out⟩
  · obtain rfl : er = 0 := by omega
    rw [if_neg (by decide)]
    obtain ⟨RV, hRV⟩ : ∃ R, runsF [] xs = R := ⟨_, rfl⟩
    rw [hRV]
    have HR0 : Hid (runsF [] (xs.drop 0) = RV) := hRV
    have HZ1 : Hid (refuF 0 (xs.drop 0) = 0) := HZ0.out
    clear h0 hRV HZ0
    go_enter Try.func15, Try.ntmps15
    go_wp2_with fail
    refine HRf.out.mono ?_
    rintro e w1 ⟨rfl, hb⟩
    have HB1 := Lib.hid hb
    clear hb HRf
    go_wp2_with fail
    go_loopw [3, 4] (fun rv iv wr => ∃ (i t : Nat) (acc : List L6) (ra : Option Addr) (rc : Nat), i ≤ n ∧ iv = .int .i64 (i : Int) ∧ rv = .slice ra acc.length rc ∧ acc.length ≤ i ∧ Hid (OwnL wr w.heap.size (.slice ra acc.length rc) acc) ∧ Hid (runsF acc (xs.drop i) = RV) ∧ Hid (refuF t (xs.drop i) = 0) ∧ Hid (∀ y ∈ acc, y.fine) ∧ Hid (Below w.heap.size w wr)) (fun _ iv _ => n - (intOf iv).toNat)
    case atStart => exact ⟨0, 0, [], none, 0, by omega, rfl, rfl, by simp, OwnL.nil _ _, HR0, HZ1, (fun y hy => by cases hy), HB1⟩
    case round =>
      clear HB1 HR0 HZ1
      obtain ⟨i, t, acc, ra, rc, hi, rfl, rfl, hai, HO, HE, HZ, HF, HB⟩ := hrel
      by_cases hin : i < n
      · have hix : i < xs.length := by rw [HN.out]; exact hin
        have ji : (i : Int) < (n : Int) := by omega
        have hw1 : IntKind.i64.wrap ((i : Int) + 1) = ((i + 1 : Nat) : Int) := by rw [IntKind.wrap_i64]; omega
        obtain ⟨_, _, e', _, _, _, hc⟩ := HR.out.below HB.out
        simp only [Value.slice.injEq] at e'
        obtain ⟨rfl, e9, rfl⟩ := e'
        clear e9
        obtain ⟨b, of, rfl, c0, c1, c2, c3, c4, c5⟩ := hc i hix
        have HD : Hid (runsF acc (xs[i] :: xs.drop (i + 1)) = RV) := by
          have := HE.out
          rw [List.drop_eq_getElem_cons hix] at this
          exact this
        have hzd : refuF t (xs[i] :: xs.drop (i + 1)) = 0 := by
          have := HZ.out
          rw [List.drop_eq_getElem_cons hix] at this
          exact this
        have HK : Hid (L6.ok xs[i]) := HX.out xs[i] (List.getElem_mem _)
        clear hc HE HZ
        generalize xs[i] = x at *
        obtain ⟨ha0, ht, hzr⟩ := refuF_zero hzd
        have HZr := Lib.hid hzr
        have HXf : Hid (x.fine) := by
          obtain ⟨z1, z2, z3, z4, z5, z6⟩ := aloneF_zero ha0
          exact ⟨z1, z4, z5⟩
        clear hzd ha0 ht hzr
        have HL := Lib.hid (LfAt.new' wr x)
        have HBl := Lib.hid (lf_below' wr x)
        have HXw : Hid (w.heap.size ≤ wr.heap.size) := HB.out.size
        rcases List.eq_nil_or_concat acc with he | ⟨bs, y, he⟩
        · subst he
          simp only [List.length_nil] at *
          have HD2 : Hid (runsF ([] ++ [x]) (xs.drop (i + 1)) = RV) := HD.out
          have HO1 := Lib.hid (HO.out.below HBl.out)
          have HB1 := Lib.hid (HB.out.trans (HBl.out.mono HB.out.size))
          clear HD HO HF HB HBl HK
          go_upto_region 8 with fail
          generalize (wr.alloc (.cells #[.int .u64 (x.v : Int), .int .u64 (x.p : Int), .int .i64 x.n, .bool x.big, .bool x.wr, .bool x.ex] 34)) = W1 at *
          clear c0 c1 c2 c3 c4 c5
          obtain ⟨c0, c1, c2, c3, c4, c5⟩ := HL.out.cells
          have HOA := Lib.hid (HO1.out.below (lf_below' W1 x))
          have HBK : Hid ((W1.alloc (.cells #[.int .u64 (x.v : Int), .int .u64 (x.p : Int), .int .i64 x.n, .bool x.big, .bool x.wr, .bool x.ex] 34)).heap[W1.heap.size]? = some (.cells (encL x).toArray 34 (0, 0))) := heap_alloc_new W1 _
          have HBA := Lib.hid (HB1.out.trans ((lf_below' W1 x).mono HB1.out.size))
          have HLy : Hid ((([] : List L6).length + 1) * 60 ≤ 140737488355328) := by show (([] : List L6).length + 1) * 60 ≤ 140737488355328; decide
          go_wp2_with (at_builtin; refine wpList_appendL6 (xs := ([] : List L6)) (base := w.heap.size) rfl (.tmp 82) (.tmp 84) rfl HOA.out rfl rfl HBK.out HLy.out HBA.out.size ?_; intro v2 w2 HO2 HG2 HL2; obtain ⟨va2, vc2, hv2⟩ := HO2.out.form; subst hv2)
          have HB2 : Hid (Below w.heap.size w w2) := HBA.out.grown HG2.out HBA.out.size (fun k e => (HOA.out.lt k e).1)
          go_roundw
          case rel => exact ⟨i + 1, x.v + x.n.toNat * 4096, ([] : List L6) ++ [x], va2, vc2, by omega, rfl, rfl, by simp, HO2, HD2, HZr, (fun z hz => (List.mem_append.1 hz).elim (fun hz => by cases hz) (fun hz => by rw [List.mem_singleton.1 hz]; exact HXf.out)), HB2⟩
          case measure => simp [intOf]; omega
        · rw [List.concat_eq_append] at he
          subst he
          have hlen : (bs ++ [y]).length = bs.length + 1 := by simp
          obtain ⟨k, hk⟩ : ∃ k, bs.length = k := ⟨_, rfl⟩
          obtain ⟨g, c', e8, hcap, hg1, hg2, _, _, _⟩ := HO.out.last
          rw [hlen, hk] at e8 HO hai
          simp only [Value.slice.injEq] at e8
          obtain ⟨rfl, e7, rfl⟩ := e8
          clear e7
          rw [hk] at hcap
          rw [hlen, hk]
          have HKb := Lib.hid hk
          have HYf : Hid y.fine := HF.out y (List.mem_append_right _ (List.mem_singleton.2 rfl))
          have hyn : 1 ≤ y.n ∧ y.n ≤ 1073741824 := by
            obtain ⟨a1, a2, a3⟩ := HYf.out
            omega
          have hxn : 1 ≤ x.n ∧ x.n ≤ 1073741824 := by
            obtain ⟨a1, a2, a3⟩ := HXf.out
            omega
          have HO0 := Lib.hid (HO.out.below HBl.out)
          have HB0 := Lib.hid (HB.out.trans (HBl.out.mono HB.out.size))
          obtain ⟨my, hmy⟩ : ∃ m : Nat, y.n = (m : Int) := ⟨y.n.toNat, by omega⟩
          obtain ⟨S, hS⟩ : ∃ S, my * 4096 = S := ⟨_, rfl⟩
          have hfy := HYf.out.2
          rw [hmy, Int.toNat_natCast, hS] at hfy
          obtain ⟨ev, hev⟩ : ∃ e, y.v + S = e := ⟨_, rfl⟩
          obtain ⟨ep, hep⟩ : ∃ e, y.p + S = e := ⟨_, rfl⟩
          have wm : IntKind.u64.wrap y.n = (my : Int) := by rw [IntKind.wrap_u64]; omega
          have ws : IntKind.u64.wrap ((my : Int) * 4096) = (S : Int) := by rw [IntKind.wrap_u64]; omega
          have wv : IntKind.u64.wrap ((y.v : Int) + (S : Int)) = (ev : Int) := by rw [IntKind.wrap_u64]; omega
          have wp : IntKind.u64.wrap ((y.p : Int) + (S : Int)) = (ep : Int) := by rw [IntKind.wrap_u64]; omega
          have HGf : Hid (goesF y x = decide (x.v = ev ∧ x.p = ep ∧ x.big = y.big ∧ x.wr = y.wr ∧ x.ex = y.ex)) := by
            show _ = _
            unfold goesF
            rw [hmy, Int.toNat_natCast, hS, hev, hep]
          have hwl : IntKind.i64.wrap (((k + 1 : Nat) : Int) - 1) = (k : Int) := by rw [IntKind.wrap_i64]; omega
          have hwl2 : IntKind.i64.wrap ((k : Int) + 1 - 1) = (k : Int) := by rw [IntKind.wrap_i64]; omega
          have hwn : IntKind.i64.wrap (y.n + x.n) = y.n + x.n := by rw [IntKind.wrap_i64]; omega
          have jk : (k : Int) < ((k + 1 : Nat) : Int) := by omega
          have jk2 : (k : Int) < (k : Int) + 1 := by omega
          have jk0 : (0 : Int) ≤ (k : Int) := by omega
          have dk : decide ((0 : Int) ≤ (k : Int)) = true := decide_eq_true jk0
          have hDD := HD.out
          rw [runsF_some] at hDD
          have HD3 := Lib.hid hDD
          clear HO HB HBl HK HD hDD hlen hk hyn hxn hS hev hep hfy hmy
          go_upto_region 8 with fail
          generalize (wr.alloc (.cells #[.int .u64 (x.v : Int), .int .u64 (x.p : Int), .int .i64 x.n, .bool x.big, .bool x.wr, .bool x.ex] 34)) = W0 at *
          clear c0 c1 c2 c3 c4 c5
          obtain ⟨c0, c1, c2, c3, c4, c5⟩ := HL.out.cells
          obtain ⟨z0, z1, z2, z3, z4, z5⟩ := HO0.out.y6 HKb.out
          go_upto_region 11 with fail
          have HLy := Lib.hid (LfAt.new' W0 y)
          have HLx := Lib.hid (HL.out.below (lf_below' W0 y))
          have HO1 := Lib.hid (HO0.out.below (lf_below' W0 y))
          have HB1 := Lib.hid (HB0.out.trans ((lf_below' W0 y).mono HB0.out.size))
          have hgX : g < wr.heap.size := hg2
          have hXY : wr.heap.size < W0.heap.size := HL.out.lt
          clear HL HO0 HB0 c0 c1 c2 c3 c4 c5 z0 z1 z2 z3 z4 z5 hg2
          generalize (W0.alloc (.cells #[.int .u64 (y.v : Int), .int .u64 (y.p : Int), .int .i64 y.n, .bool y.big, .bool y.wr, .bool y.ex] 34)) = W1 at *
          generalize W0.heap.size = Y at *
          generalize wr.heap.size = X at *
          have HNo : Hid (goesF y x = false → runsF (bs ++ [y] ++ [x]) (xs.drop (i + 1)) = RV) := fun e => by
            have := HD3.out
            rw [e, if_neg (by decide)] at this
            exact this
          have HYe : Hid (goesF y x = true → runsF (bs ++ [joinL y x]) (xs.drop (i + 1)) = RV) := fun e => by
            have := HD3.out
            rw [e, if_pos rfl] at this
            exact this
          have HLn : Hid ((bs ++ [y]).length = k + 1) := by show _ = _; rw [List.length_append, HKb.out]; rfl
          clear HD3
          obtain ⟨d0, d1, d2, d3, d4, d5⟩ := HLy.out.cells
          obtain ⟨c0, c1, c2, c3, c4, c5⟩ := HLx.out.cells
          obtain ⟨z0, z1, z2, z3, z4, z5⟩ := HO1.out.y6 HKb.out
          go_upto_region 12 with fail
          by_cases h1 : x.v = ev
          · have j1 : ((ev : Int) == (x.v : Int)) = true := by rw [h1]; simp
            have j1' : (ev : Int) = (x.v : Int) := by rw [h1]
            by_cases h2 : x.p = ep
            · have j2 : ((ep : Int) == (x.p : Int)) = true := by rw [h2]; simp
              have j2' : (ep : Int) = (x.p : Int) := by rw [h2]
              by_cases h3 : x.big = y.big
              · have j3 : (y.big == x.big) = true := by rw [h3]; simp
                by_cases h4 : x.wr = y.wr
                · have j4 : (y.wr == x.wr) = true := by rw [h4]; simp
                  by_cases h5 : x.ex = y.ex
                  · have j5 : (y.ex == x.ex) = true := by rw [h5]; simp
                    have HG : Hid (goesF y x = true) := by
                      show _ = _
                      rw [HGf.out]
                      exact decide_eq_true ⟨h1, h2, h3, h4, h5⟩
                    clear h1 h2 h3 h4 h5
                    obtain ⟨hO2, hgb, hff⟩ := HO1.out.put2 HKb.out (y.n + x.n)
                    have HO2 := Lib.hid hO2
                    have HB2 : Hid (Below w.heap.size w (W1.setCell ⟨g, k * 6 + 2, none⟩ (.int .i64 (y.n + x.n)))) := HB1.out.setCell hgb _
                    have HJ : Hid (∀ z ∈ bs ++ [joinL y x], z.fine) := fun z hz => (List.mem_append.1 hz).elim (fun hz => HF.out z (List.mem_append_left _ hz)) (fun hz => by rw [List.mem_singleton.1 hz]; exact HYf.out.join HXf.out HG.out)
                    have hl2 : (bs ++ [joinL y x]).length = k + 1 := by rw [List.length_append, HKb.out]; rfl
                    have HL2 := Lib.hid hl2
                    have HD4 := Lib.hid (HYe.out HG.out)
                    clear hO2 hl2 hgb HO1 HB1 HLx HLy HNo HYe HG
                    go_wp2_with fail
                    go_roundw
                    case rel => exact ⟨i + 1, x.v + x.n.toNat * 4096, bs ++ [joinL y x], some ⟨g, 0, none⟩, rc, by omega, rfl, by rw [HL2.out], by rw [HL2.out]; omega, (by rw [HL2.out]; exact HO2), HD4, HZr, HJ, HB2⟩
                    case measure => simp [intOf]; omega
                  · have j5 : (y.ex == x.ex) = false := by simp; exact fun e => h5 e.symm
                    have HC : Hid (¬ x.ex = y.ex) := h5
                    clear h1 h2 h3 h4 h5
                    have HL2 : Hid (LfAt W1 X x) := HLx.out
                    have HO2 : Hid (OwnL W1 w.heap.size (.slice (some ⟨g, 0, none⟩) (k + 1) rc) (bs ++ [y])) := HO1.out
                    have HB2 : Hid (Below w.heap.size w W1) := HB1.out
                    have HOA := Lib.hid (HO2.out.below (lf_below' W1 x))
                    have HBK : Hid ((W1.alloc (.cells #[.int .u64 (x.v : Int), .int .u64 (x.p : Int), .int .i64 x.n, .bool x.big, .bool x.wr, .bool x.ex] 34)).heap[W1.heap.size]? = some (.cells (encL x).toArray 34 (0, 0))) := heap_alloc_new W1 _
                    have HBA := Lib.hid (HB2.out.trans ((lf_below' W1 x).mono HB2.out.size))
                    have HLz : Hid (((bs ++ [y] : List L6).length + 1) * 60 ≤ 140737488355328) := by show ((bs ++ [y] : List L6).length + 1) * 60 ≤ 140737488355328; rw [HLn.out]; omega
                    go_wp2_with (at_builtin; refine wpList_appendL6 (xs := (bs ++ [y] : List L6)) (base := w.heap.size) rfl (.tmp 82) (.tmp 84) rfl HOA.out rfl rfl HBK.out HLz.out HBA.out.size ?_; intro v2 w2 HO3 HG2 HL3; obtain ⟨va2, vc2, hv2⟩ := HO3.out.form; subst hv2)
                    have HB3 : Hid (Below w.heap.size w w2) := HBA.out.grown HG2.out HBA.out.size (fun k e => (HOA.out.lt k e).1)
                    go_roundw
                    case rel => exact ⟨i + 1, x.v + x.n.toNat * 4096, (bs ++ [y]) ++ [x], va2, vc2, by omega, rfl, by simp, by rw [List.length_append, HLn.out, List.length_singleton]; omega, HO3, HNo.out (by simp [HGf.out, HC.out]), HZr, (fun z hz => (List.mem_append.1 hz).elim (fun hz => HF.out z hz) (fun hz => by rw [List.mem_singleton.1 hz]; exact HXf.out)), HB3⟩
                    case measure => simp [intOf]; omega
                · have j4 : (y.wr == x.wr) = false := by simp; exact fun e => h4 e.symm
                  have HC : Hid (¬ x.wr = y.wr) := h4
                  clear h1 h2 h3 h4
                  have HL2 : Hid (LfAt W1 X x) := HLx.out
                  have HO2 : Hid (OwnL W1 w.heap.size (.slice (some ⟨g, 0, none⟩) (k + 1) rc) (bs ++ [y])) := HO1.out
                  have HB2 : Hid (Below w.heap.size w W1) := HB1.out
                  have HOA := Lib.hid (HO2.out.below (lf_below' W1 x))
                  have HBK : Hid ((W1.alloc (.cells #[.int .u64 (x.v : Int), .int .u64 (x.p : Int), .int .i64 x.n, .bool x.big, .bool x.wr, .bool x.ex] 34)).heap[W1.heap.size]? = some (.cells (encL x).toArray 34 (0, 0))) := heap_alloc_new W1 _
                  have HBA := Lib.hid (HB2.out.trans ((lf_below' W1 x).mono HB2.out.size))
                  have HLz : Hid (((bs ++ [y] : List L6).length + 1) * 60 ≤ 140737488355328) := by show ((bs ++ [y] : List L6).length + 1) * 60 ≤ 140737488355328; rw [HLn.out]; omega
                  go_wp2_with (at_builtin; refine wpList_appendL6 (xs := (bs ++ [y] : List L6)) (base := w.heap.size) rfl (.tmp 82) (.tmp 84) rfl HOA.out rfl rfl HBK.out HLz.out HBA.out.size ?_; intro v2 w2 HO3 HG2 HL3; obtain ⟨va2, vc2, hv2⟩ := HO3.out.form; subst hv2)
                  have HB3 : Hid (Below w.heap.size w w2) := HBA.out.grown HG2.out HBA.out.size (fun k e => (HOA.out.lt k e).1)
                  go_roundw
                  case rel => exact ⟨i + 1, x.v + x.n.toNat * 4096, (bs ++ [y]) ++ [x], va2, vc2, by omega, rfl, by simp, by rw [List.length_append, HLn.out, List.length_singleton]; omega, HO3, HNo.out (by simp [HGf.out, HC.out]), HZr, (fun z hz => (List.mem_append.1 hz).elim (fun hz => HF.out z hz) (fun hz => by rw [List.mem_singleton.1 hz]; exact HXf.out)), HB3⟩
                  case measure => simp [intOf]; omega
              · have j3 : (y.big == x.big) = false := by simp; exact fun e => h3 e.symm
                have HC : Hid (¬ x.big = y.big) := h3
                clear h1 h2 h3
                have HL2 : Hid (LfAt W1 X x) := HLx.out
                have HO2 : Hid (OwnL W1 w.heap.size (.slice (some ⟨g, 0, none⟩) (k + 1) rc) (bs ++ [y])) := HO1.out
                have HB2 : Hid (Below w.heap.size w W1) := HB1.out
                have HOA := Lib.hid (HO2.out.below (lf_below' W1 x))
                have HBK : Hid ((W1.alloc (.cells #[.int .u64 (x.v : Int), .int .u64 (x.p : Int), .int .i64 x.n, .bool x.big, .bool x.wr, .bool x.ex] 34)).heap[W1.heap.size]? = some (.cells (encL x).toArray 34 (0, 0))) := heap_alloc_new W1 _
                have HBA := Lib.hid (HB2.out.trans ((lf_below' W1 x).mono HB2.out.size))
                have HLz : Hid (((bs ++ [y] : List L6).length + 1) * 60 ≤ 140737488355328) := by show ((bs ++ [y] : List L6).length + 1) * 60 ≤ 140737488355328; rw [HLn.out]; omega
                go_wp2_with (at_builtin; refine wpList_appendL6 (xs := (bs ++ [y] : List L6)) (base := w.heap.size) rfl (.tmp 82) (.tmp 84) rfl HOA.out rfl rfl HBK.out HLz.out HBA.out.size ?_; intro v2 w2 HO3 HG2 HL3; obtain ⟨va2, vc2, hv2⟩ := HO3.out.form; subst hv2)
                have HB3 : Hid (Below w.heap.size w w2) := HBA.out.grown HG2.out HBA.out.size (fun k e => (HOA.out.lt k e).1)
                go_roundw
                case rel => exact ⟨i + 1, x.v + x.n.toNat * 4096, (bs ++ [y]) ++ [x], va2, vc2, by omega, rfl, by simp, by rw [List.length_append, HLn.out, List.length_singleton]; omega, HO3, HNo.out (by simp [HGf.out, HC.out]), HZr, (fun z hz => (List.mem_append.1 hz).elim (fun hz => HF.out z hz) (fun hz => by rw [List.mem_singleton.1 hz]; exact HXf.out)), HB3⟩
                case measure => simp [intOf]; omega
            · have j2 : ((ep : Int) == (x.p : Int)) = false := by simp; omega
              have j2' : ¬ (ep : Int) = (x.p : Int) := by omega
              have HC : Hid (¬ x.p = ep) := h2
              clear h1 h2
              have HL2 : Hid (LfAt W1 X x) := HLx.out
              have HO2 : Hid (OwnL W1 w.heap.size (.slice (some ⟨g, 0, none⟩) (k + 1) rc) (bs ++ [y])) := HO1.out
              have HB2 : Hid (Below w.heap.size w W1) := HB1.out
              have HOA := Lib.hid (HO2.out.below (lf_below' W1 x))
              have HBK : Hid ((W1.alloc (.cells #[.int .u64 (x.v : Int), .int .u64 (x.p : Int), .int .i64 x.n, .bool x.big, .bool x.wr, .bool x.ex] 34)).heap[W1.heap.size]? = some (.cells (encL x).toArray 34 (0, 0))) := heap_alloc_new W1 _
              have HBA := Lib.hid (HB2.out.trans ((lf_below' W1 x).mono HB2.out.size))
              have HLz : Hid (((bs ++ [y] : List L6).length + 1) * 60 ≤ 140737488355328) := by show ((bs ++ [y] : List L6).length + 1) * 60 ≤ 140737488355328; rw [HLn.out]; omega
              go_wp2_with (at_builtin; refine wpList_appendL6 (xs := (bs ++ [y] : List L6)) (base := w.heap.size) rfl (.tmp 82) (.tmp 84) rfl HOA.out rfl rfl HBK.out HLz.out HBA.out.size ?_; intro v2 w2 HO3 HG2 HL3; obtain ⟨va2, vc2, hv2⟩ := HO3.out.form; subst hv2)
              have HB3 : Hid (Below w.heap.size w w2) := HBA.out.grown HG2.out HBA.out.size (fun k e => (HOA.out.lt k e).1)
              go_roundw
              case rel => exact ⟨i + 1, x.v + x.n.toNat * 4096, (bs ++ [y]) ++ [x], va2, vc2, by omega, rfl, by simp, by rw [List.length_append, HLn.out, List.length_singleton]; omega, HO3, HNo.out (by simp [HGf.out, HC.out]), HZr, (fun z hz => (List.mem_append.1 hz).elim (fun hz => HF.out z hz) (fun hz => by rw [List.mem_singleton.1 hz]; exact HXf.out)), HB3⟩
              case measure => simp [intOf]; omega
          · have j1 : ((ev : Int) == (x.v : Int)) = false := by simp; omega
            have j1' : ¬ (ev : Int) = (x.v : Int) := by omega
            have HC : Hid (¬ x.v = ev) := h1
            clear h1
            have HL2 : Hid (LfAt W1 X x) := HLx.out
            have HO2 : Hid (OwnL W1 w.heap.size (.slice (some ⟨g, 0, none⟩) (k + 1) rc) (bs ++ [y])) := HO1.out
            have HB2 : Hid (Below w.heap.size w W1) := HB1.out
            have HOA := Lib.hid (HO2.out.below (lf_below' W1 x))
            have HBK : Hid ((W1.alloc (.cells #[.int .u64 (x.v : Int), .int .u64 (x.p : Int), .int .i64 x.n, .bool x.big, .bool x.wr, .bool x.ex] 34)).heap[W1.heap.size]? = some (.cells (encL x).toArray 34 (0, 0))) := heap_alloc_new W1 _
            have HBA := Lib.hid (HB2.out.trans ((lf_below' W1 x).mono HB2.out.size))
            have HLz : Hid (((bs ++ [y] : List L6).length + 1) * 60 ≤ 140737488355328) := by show ((bs ++ [y] : List L6).length + 1) * 60 ≤ 140737488355328; rw [HLn.out]; omega
            go_wp2_with (at_builtin; refine wpList_appendL6 (xs := (bs ++ [y] : List L6)) (base := w.heap.size) rfl (.tmp 82) (.tmp 84) rfl HOA.out rfl rfl HBK.out HLz.out HBA.out.size ?_; intro v2 w2 HO3 HG2 HL3; obtain ⟨va2, vc2, hv2⟩ := HO3.out.form; subst hv2)
            have HB3 : Hid (Below w.heap.size w w2) := HBA.out.grown HG2.out HBA.out.size (fun k e => (HOA.out.lt k e).1)
            go_roundw
            case rel => exact ⟨i + 1, x.v + x.n.toNat * 4096, (bs ++ [y]) ++ [x], va2, vc2, by omega, rfl, by simp, by rw [List.length_append, HLn.out, List.length_singleton]; omega, HO3, HNo.out (by simp [HGf.out, HC.out]), HZr, (fun z hz => (List.mem_append.1 hz).elim (fun hz => HF.out z hz) (fun hz => by rw [List.mem_singleton.1 hz]; exact HXf.out)), HB3⟩
            case measure => simp [intOf]; omega
      · obtain rfl : i = n := by omega
        have HQ : Hid (acc = RV) := by
          have := HE.out
          rw [List.drop_eq_nil_of_le (by rw [HN.out]; exact Nat.le_refl _)] at this
          exact this
        go_wp2_with fail
        go_ret
        exact ⟨_, rfl, by rw [← HQ.out]; exact HO.out, HB.out⟩
end Go.Proofs.Ytgjamnhepbblhaa
