/- SpanAll: the walk. Own work. -/
import Derived.Test.YtabgmlnlooiddaaSpAl2
import Derived.Laws.AppendOwnNone
import Derived.LoopN
namespace Go.Proofs.Ytabgmlnlooiddaa
open Go.RowKit Go.Shelf Go.Proofs.Ytabgmlnlooiddaa.Sp
attribute [local go_sem] Oper.semAt_some
theorem Cells.below {W6 W W' : World} {q i rd : Nat} {r : Int} {v : Value} {Dl : List Nat} (h : Cells W6 W q i rd r v Dl) (hb : Below W.heap.size W W') : Cells W6 W' q i rd r v Dl :=
  ⟨h.1.below hb, h.2.1.below hb, h.2.2.1.below hb, h.2.2.2.1.trans (hb.mono (by have := h.2.2.2.2.1; omega)), Nat.le_trans h.2.2.2.2.1 hb.size, h.2.2.2.2.2.1, fun d hd => (h.2.2.2.2.2.2 d hd).below hb⟩
theorem spans_sv {n : Nat} {W : World} {v : Value} {xs : List Sp} (h : U64.SpansAt n W v xs) (hn : n ≤ W.heap.size) : U64.SV W v xs := by
  rcases h with ⟨rfl, rfl⟩ | ⟨g, off, cap, rfl, hg, h1, h2, hc⟩
  · exact U64.SV.nil W
  · exact ⟨some ⟨g, off, none⟩, cap, rfl, h1, h2, fun e => (by cases e), fun a e => ⟨g, off, (by cases e; rfl), by omega⟩, fun j hj => ⟨g, off, rfl, hc j hj⟩⟩
def lit6 : List Int := [5, 7, 9, 9, 1099511627776, 2199023255552]
theorem info_u64 : (Try.prog.info? 28).map (fun i => (i.zero, i.size, i.bytes)) = some (some (.int .u64 0), 1, 8) := by kernel_rfl
theorem UL.own {w : World} {base n : Nat} {v : Value} {zs : List Int} (h : w.ownsRow base 28 1 v n (zs.map (Value.int .u64))) (hz : ∀ z ∈ zs, 0 ≤ z ∧ z ≤ 18446744073709551615) : UL w v zs := by
  obtain ⟨hl, h2⟩ := h
  have hl' : zs.length = n := by simpa using hl
  refine ⟨hz, ?_⟩
  rcases h2 with ⟨rfl, h0⟩ | ⟨g, cap, cur, rfl, _, hg, h3, h4, h5, h6⟩
  · have : zs = [] := List.eq_nil_of_length_eq_zero (by omega)
    subst this
    exact ⟨none, 0, rfl, Nat.le_refl _, Nat.zero_le _, fun _ => ⟨rfl, rfl⟩, fun j hj => by simp at hj⟩
  · refine ⟨some ⟨g, 0, none⟩, cap, by rw [hl'], by omega, h4, fun e => (by cases e), fun j hj => ⟨g, 0, rfl, ?_⟩⟩
    rw [cell_of_row w g _ _ _ _ hg]
    have h7 : (cur.toList.take (n * 1))[j]? = (zs.map (Value.int .u64))[j]? := by rw [h6]
    rw [List.getElem?_take_of_lt (by omega), List.getElem?_map, List.getElem?_eq_getElem hj] at h7
    simpa using h7
/-- append of a list that was handed in to the six numbers -/
theorem wpList_six {w : World} {ops : Array Oper} {rest : List Oper} {o : Oper} {a : Act} {Q : Exit → Act → World → Prop} (hgd : o.guard = none) (s x : Operand) (ho : o.op = .call { callee := .builtin .append, args := #[s, x], argTypes := #[22, 22] })
    {g n cl : Nat} {al : Option Addr} {ls : List Int} (hs : a.eval s = .slice (some ⟨g, 0, none⟩) 6 6) (hg : w.heap[g]? = some (.cells #[.int .u64 5, .int .u64 7, .int .u64 9, .int .u64 9, .int .u64 1099511627776, .int .u64 2199023255552] 28 (0, 0))) (hgn : n ≤ g) (hx : a.eval x = .slice al ls.length cl) (hl : UL w (.slice al ls.length cl) ls) (hlen : ls.length ≤ 2147483647)
    (h : ∀ a' n' c' w', UL w' (.slice a' n' c') (lit6 ++ ls) → Below n w w' → wpList Try.prog ops Q rest (a.put o.dst (.slice a' n' c')) w') : wpList Try.prog ops Q (o :: rest) a w := by
  obtain ⟨i0, hi, hz0, hz1, hz2⟩ := info_parts info_u64
  have hn : n ≤ w.heap.size := Nat.le_trans hgn (Nat.le_of_lt (Array.getElem?_eq_some_iff.1 hg).1)
  have hown : w.ownsRow n 28 1 (.slice (some ⟨g, 0, none⟩) 6 6) 6 (lit6.map (Value.int .u64)) := ⟨rfl, .inr ⟨g, 6, _, rfl, hgn, hg, Nat.le_refl _, by unfold maxLen; omega, rfl, rfl⟩⟩
  have h6 : ∀ z ∈ lit6, 0 ≤ z ∧ z ≤ 18446744073709551615 := by unfold lit6; decide
  obtain ⟨hr, ao, cap, e, h1, h2, h3, h5⟩ := hl
  cases e
  cases al with
  | none =>
    obtain ⟨rfl, rfl⟩ := h3 rfl
    refine wpList_append_own_none hgd s x 22 ho n 28 i0 1 Try.underlying22 hi _ 6 _ hs hown hx (h _ _ _ _ ?_ (Below.refl _ _))
    rw [List.append_nil]
    exact UL.own hown h6
  | some ad =>
    by_cases hl0 : ls.length = 0
    · have hl0' : ls = [] := List.eq_nil_of_length_eq_zero hl0
      subst hl0'
      refine wpList_append_own w hgd s x 22 ho n 28 i0 (.int .u64 0) 1 8 Try.underlying22 hi hz0 hz1 hz2 rfl (by decide) _ 6 _ hs hown ad 0 cl [] hx rfl (fun j u hj => by cases hj) (fun u hu => by cases hu) (by unfold maxLen; omega) (by decide) hn ?_
      intro v' w' h7 h8 _
      rw [List.append_nil] at h7
      obtain ⟨g', cap', rfl⟩ := ownsRow_succ h7
      refine h _ _ _ _ ?_ ((Below.refl _ _).grown h8 hn (fun k e => by cases e; exact hgn))
      rw [List.append_nil]
      exact UL.own h7 h6
    · obtain ⟨gl, off, e2, _⟩ := h5 0 (by omega)
      cases e2
      refine wpList_append_own w hgd s x 22 ho n 28 i0 (.int .u64 0) 1 8 Try.underlying22 hi hz0 hz1 hz2 rfl (by decide) _ 6 _ hs hown ⟨gl, off, none⟩ ls.length cl (ls.map (Value.int .u64)) hx (by simp) (fun j u hj => ?_) (fun u hu => ?_) (by unfold maxLen; omega) (by omega) hn ?_
      · rw [List.getElem?_map] at hj
        cases hj2 : ls[j]? with
        | none => rw [hj2] at hj; cases hj
        | some z =>
          rw [hj2] at hj
          cases hj
          obtain ⟨hjl, hz⟩ := List.getElem?_eq_some_iff.1 hj2
          obtain ⟨g2, off2, e3, hc⟩ := h5 j hjl
          cases e3
          rw [Addr.add_lit, hc, hz]
      · obtain ⟨z, _, rfl⟩ := List.mem_map.1 hu
        rfl
      · intro v' w' h7 h8 _
        rw [← List.map_append] at h7
        obtain ⟨g', cap', rfl⟩ := ownsRow_succ (show w'.ownsRow n 28 1 v' ((5 + ls.length) + 1) _ by rw [show 5 + ls.length + 1 = 6 + ls.length by omega]; exact h7)
        refine h _ _ _ _ (UL.own h7 (fun z hz => ?_)) ((Below.refl _ _).grown h8 hn (fun k e => by cases e; exact hgn))
        rcases List.mem_append.1 hz with hz | hz
        · exact h6 z hz
        · exact hr z hz
set_option maxRecDepth 100000 in
set_option maxHeartbeats 8000000 in
theorem all_walk {w : World} {vl vm : Value} {ls ms : List Int} {leave : Int} (hl : UL w vl ls) (hm : UL w vm ms) :
    Calls Try.prog 3 #[vl, vm, .int .i64 leave] w fun e w' => e = .returned (.bool true) ∧ Below w.heap.size w w' := by
  have HL : Hid (∀ W, Below w.heap.size w W → UL W vl ls) := fun W hW => hl.below hW (Nat.le_refl _)
  have HM : Hid (∀ W, Below w.heap.size w W → UL W vm ms) := fun W hW => hm.below hW (Nat.le_refl _)
  obtain ⟨_, al, cl, rfl, l1, l2, _, _⟩ := hl
  obtain ⟨_, am, cm, rfl, m1, m2, _, _⟩ := hm
  unfold maxLen at l2 m2
  refine (callsIn_wide (n := 6)).1 ?_
  refine callsIn_of_wp_marks Try.func3 rfl trivial ?_ rfl
  simp only [Try.ntmps3, List.size_toArray, List.length_cons, List.length_nil, Nat.reduceAdd, Nat.reduceSub, Array.replicate_succ, Array.replicate_zero, List.push_toArray, List.append_toArray, List.nil_append, List.cons_append]
  refine wpIn_wide.2 ?_
  go_wp2_with fail
  have HB0 : Hid (Below w.heap.size w ((w.alloc (Obj.cells #[.bool false] 4)).alloc (Obj.cells #[.int .i64 (ls.length : Int), .int .i64 (ms.length : Int)] 3))) := ((Below.refl _ _).alloc (Nat.le_refl _) _).alloc (by simp) _
  have HR0 : Hid (OneC ((w.alloc (Obj.cells #[.bool false] 4)).alloc (Obj.cells #[.int .i64 (ls.length : Int), .int .i64 (ms.length : Int)] 3)) w.heap.size 4 (.bool false)) := (show OneC (w.alloc (Obj.cells #[.bool false] 4)) w.heap.size 4 (.bool false) from heap_alloc_new w _).alloc _
  refine (U64.beyond2_any ls.length ms.length (w.heap.size + 1) 2 _ (by omega) (by omega) (U64.new2 (by simp) _ _ _).1 (U64.new2 (by simp) _ _ _).2).mono ?_
  rintro e w' ⟨rfl, hw⟩
  subst hw
  obtain ⟨W1, hW1⟩ : ∃ W1, ((w.alloc (Obj.cells #[.bool false] 4)).alloc (Obj.cells #[.int .i64 (ls.length : Int), .int .i64 (ms.length : Int)] 3)) = W1 := ⟨_, rfl⟩
  rw [hW1] at HB0 HR0 ⊢
  clear hW1
  have cR := HR0.out.cell
  have fR := HR0.out.thawed
  by_cases hbig : 2147483647 < ls.length + ms.length
  · rw [decide_eq_true hbig]
    have HRe : Hid (OneC (W1.setCell ⟨w.heap.size, 0, none⟩ (.bool true)) w.heap.size 4 (.bool true)) := HR0.out.set _
    have HBe : Hid (Below w.heap.size w (W1.setCell ⟨w.heap.size, 0, none⟩ (.bool true))) := HB0.out.setCell (p := ⟨w.heap.size, 0, none⟩) (Nat.le_refl _) _
    go_wp2_with fail
    refine ⟨.bool true, ?_, rfl, HBe.out⟩
    simp [results, Try.results3, go_sem, HRe.out.cell]
  · rw [decide_eq_false hbig]
    have HL2 : Hid (UL (W1.alloc (Obj.cells #[.int .u64 5, .int .u64 7, .int .u64 9, .int .u64 9, .int .u64 1099511627776, .int .u64 2199023255552] 28)) (.slice al ls.length cl) ls) := HL.out _ (HB0.out.alloc HB0.out.size _)
    have HG2 : Hid ((W1.alloc (Obj.cells #[.int .u64 5, .int .u64 7, .int .u64 9, .int .u64 9, .int .u64 1099511627776, .int .u64 2199023255552] 28)).heap[W1.heap.size]? = some (.cells #[.int .u64 5, .int .u64 7, .int .u64 9, .int .u64 9, .int .u64 1099511627776, .int .u64 2199023255552] 28 (0, 0))) := heap_alloc_new W1 _
    have hl31 : ls.length ≤ 2147483647 := by omega
    go_wp2_with (first | (refine wpList_six rfl _ _ rfl rfl HG2.out (Nat.le_refl _) rfl HL2.out hl31 ?_; intro a2 n2 c2 w2 HU2 hb2))
    have HB2 : Hid (Below w.heap.size w w2) := (HB0.out.alloc HB0.out.size _).trans (hb2.mono HB0.out.size)
    have HR2 : Hid (OneC w2 w.heap.size 4 (.bool false)) := (hb2.block w.heap.size HR0.out.lt).trans (HR0.out.alloc _)
    have HU2 : Hid (UL w2 (.slice a2 n2 c2) (lit6 ++ ls)) := HU2
    clear hb2 HL2 HG2 HB0 HR0 cR fR
    refine (U64.many_any HU2.out (by rw [List.length_append, show lit6.length = 6 from rfl]; omega)).mono ?_
    rintro e w3 ⟨v3, rs, rfl, ho3, hr3, hb⟩
    have HCan : Hid (Canon 18446744073709551615 rs) := hr3.1
    have hrl : rs.length ≤ 1073741827 := by
      have := hr3.2.2
      unfold pairs at this
      rw [pairsN_length, List.length_append, show lit6.length = 6 from rfl] at this
      omega
    have hr0 : rs ≠ [] := fun e => by
      have h5 := (hr3.2.1 5).2 ⟨(5, 7), ?_, by decide, by decide⟩
      · rw [e] at h5
        obtain ⟨_, h, _⟩ := h5
        cases h
      · unfold pairs pairsN
        refine List.mem_map.2 ⟨0, List.mem_range.2 (by rw [List.length_append, show lit6.length = 6 from rfl]; omega), ?_⟩
        rfl
    have HS3 : Hid (U64.SV w3 v3 rs) := ho3.sv
    obtain ⟨a3, c3, hv3, _⟩ := ho3.sv
    subst hv3
    obtain ⟨N, hN⟩ : ∃ N, N = rs.length := ⟨_, rfl⟩
    have HN : Hid (N = rs.length) := hN
    have hN0 : N ≠ 0 := fun e => hr0 (List.eq_nil_of_length_eq_zero (by omega))
    have hN1 : N ≤ 1073741827 := by omega
    rw [← hN] at HS3 ⊢
    clear hN ho3 hr3 hr0 HU2
    have HR3 : Hid (OneC w3 w.heap.size 4 (.bool false)) := OneC.below (by first | exact HR2.out | exact HR2.out.alloc _ | exact (HR2.out.alloc _).alloc _ | exact ((HR2.out.alloc _).alloc _).alloc _) hb
    have HB3 : Hid (Below w.heap.size w w3) := Below.trans (by first | exact HB2.out | exact HB2.out.alloc HB2.out.size _ | exact (HB2.out.alloc HB2.out.size _).alloc (by have := HB2.out.size; simp; omega) _ | exact ((HB2.out.alloc HB2.out.size _).alloc (by have := HB2.out.size; simp; omega) _).alloc (by have := HB2.out.size; simp; omega) _) (hb.mono (by have := HB2.out.size; simp; try omega))
    clear hb HR2 HB2
    have cR := HR3.out.cell
    have dR := fun o => (HR3.out.alloc o).cell
    have eR := fun o o' => ((HR3.out.alloc o).alloc o').cell
    go_wp2_with fail
    clear cR dR eR
    have HA3 : Hid (OneC (w3.alloc (Obj.cells #[.slice a3 N c3] 26)) w3.heap.size 26 (.slice a3 N c3)) := heap_alloc_new w3 _
    refine (U64.spans_any (show U64.SV _ (.slice a3 N c3) rs from HS3.out.alloc _) (by have := HN.out; omega)).mono ?_
    rintro e w4 ⟨v4, rfl, ho4, hb⟩
    have HW4 : Hid (U64.SV w4 v4 rs) := ho4.sv
    obtain ⟨a4, c4, hv4, _⟩ := ho4.sv
    rw [← HN.out] at hv4
    subst hv4
    clear ho4
    have HR4 : Hid (OneC w4 w.heap.size 4 (.bool false)) := OneC.below (by first | exact HR3.out | exact HR3.out.alloc _ | exact (HR3.out.alloc _).alloc _ | exact ((HR3.out.alloc _).alloc _).alloc _) hb
    have HA4 : Hid (OneC w4 w3.heap.size 26 (.slice a3 N c3)) := OneC.below (by first | exact HA3.out | exact HA3.out.alloc _ | exact (HA3.out.alloc _).alloc _ | exact ((HA3.out.alloc _).alloc _).alloc _) hb
    have HS4 : Hid (U64.SV w4 (.slice a3 N c3) rs) := (show U64.SV _ (.slice a3 N c3) rs from by first | exact HS3.out | exact HS3.out.alloc _ | exact (HS3.out.alloc _).alloc _ | exact ((HS3.out.alloc _).alloc _).alloc _).below hb (Nat.le_refl _)
    have HB4 : Hid (Below w.heap.size w w4) := Below.trans (by first | exact HB3.out | exact HB3.out.alloc HB3.out.size _ | exact (HB3.out.alloc HB3.out.size _).alloc (by have := HB3.out.size; simp; omega) _ | exact ((HB3.out.alloc HB3.out.size _).alloc (by have := HB3.out.size; simp; omega) _).alloc (by have := HB3.out.size; simp; omega) _) (hb.mono (by have := HB3.out.size; simp; try omega))
    clear HS3
    clear hb HR3 HA3 HB3
    have cR := HR4.out.cell
    have dR := fun o => (HR4.out.alloc o).cell
    have eR := fun o o' => ((HR4.out.alloc o).alloc o').cell
    have cA := HA4.out.cell
    have dA := fun o => (HA4.out.alloc o).cell
    have eA := fun o o' => ((HA4.out.alloc o).alloc o').cell
    have hNn : ((N : Int) == 0) = false := by simp; omega
    go_wp2_with fail
    clear cR dR eR cA dA eA
    refine (U64.within1_any (by omega) (by omega) _).mono ?_
    rintro e w' ⟨n, rfl, hn1, hn2, hw⟩
    have hw := hw.symm
    subst hw
    have cA := HA4.out.cell
    have dA := fun o => (HA4.out.alloc o).cell
    have eA := fun o o' => ((HA4.out.alloc o).alloc o').cell
    have fA := fun o o' o'' => (((HA4.out.alloc o).alloc o').alloc o'').cell
    go_wp2_with fail
    clear cA dA eA fA
    refine U64.all_any.mono ?_
    rintro e W5 ⟨rfl, hw⟩
    obtain ⟨q, hq⟩ : ∃ q, w4.heap.size = q := ⟨_, rfl⟩
    have e3 : (((w4.alloc (Obj.cells #[.slice a4 N c4] 24)).alloc (Obj.cells #[.int .i64 (n : Int)] 3)).alloc (Obj.cells #[.int .i64 0] 3)).heap.size = q + 3 := by simp [hq]
    have hb5 : Below w4.heap.size w4 W5 := by rw [hw]; exact ((((Below.refl _ _).alloc (Nat.le_refl _) _).alloc (by simp) _).alloc (by simp; omega) _).alloc (by simp; omega) _
    have HSz : Hid (W5.heap.size = q + 4) := by show _ = _; rw [hw]; simp [hq]
    have HWb : Hid (OneC W5 q 24 (.slice a4 N c4)) := by
      rw [hw, ← hq]
      exact (((show OneC (w4.alloc (Obj.cells #[.slice a4 N c4] 24)) w4.heap.size 24 (.slice a4 N c4) from heap_alloc_new w4 _).alloc _).alloc _).alloc _
    have HNb : Hid (OneC W5 (q + 1) 3 (.int .i64 (n : Int))) := by
      have := heap_alloc_new (w4.alloc (Obj.cells #[.slice a4 N c4] 24)) (Obj.cells #[.int .i64 (n : Int)] 3)
      rw [show (w4.alloc (Obj.cells #[.slice a4 N c4] 24)).heap.size = q + 1 by simp [hq]] at this
      rw [hw]
      exact ((show OneC _ (q + 1) 3 (.int .i64 (n : Int)) from this).alloc _).alloc _
    have HIb : Hid (OneC W5 (q + 2) 3 (.int .i64 0)) := by
      have := heap_alloc_new ((w4.alloc (Obj.cells #[.slice a4 N c4] 24)).alloc (Obj.cells #[.int .i64 (n : Int)] 3)) (Obj.cells #[.int .i64 0] 3)
      rw [show ((w4.alloc (Obj.cells #[.slice a4 N c4] 24)).alloc (Obj.cells #[.int .i64 (n : Int)] 3)).heap.size = q + 2 by simp [hq]] at this
      rw [hw]
      exact (show OneC _ (q + 2) 3 (.int .i64 0) from this).alloc _
    have HCb : Hid (OneC W5 (q + 3) 26 (.slice a3 N c3)) := by
      have := heap_alloc_new (((w4.alloc (Obj.cells #[.slice a4 N c4] 24)).alloc (Obj.cells #[.int .i64 (n : Int)] 3)).alloc (Obj.cells #[.int .i64 0] 3)) (Obj.cells #[.slice a3 N c3] 26)
      rw [e3, ← hw] at this
      exact this
    have HR5 : Hid (OneC W5 w.heap.size 4 (.bool false)) := HR4.out.below hb5
    have HA5 : Hid (OneC W5 w3.heap.size 26 (.slice a3 N c3)) := HA4.out.below hb5
    have hA3 : w3.heap.size < q := by have := HA4.out.lt; omega
    have HS5 : Hid (U64.SV W5 (.slice a3 N c3) rs) := HS4.out.below hb5 (Nat.le_refl _)
    have HW5 : Hid (U64.SV W5 (.slice a4 N c4) rs) := HW4.out.below hb5 (Nat.le_refl _)
    have HSp5 : Hid (U64.SpansAt q W5 (.slice a3 N c3) rs ∧ U64.SpansAt q W5 (.slice a4 N c4) rs) := by
      rw [← hq]
      exact ⟨(HS4.out.spans (Nat.le_refl _)).below hb5, (HW4.out.spans (Nat.le_refl _)).below hb5⟩
    have HB5 : Hid (Below w.heap.size w W5) := HB4.out.trans (hb5.mono HB4.out.size)
    have HRq : Hid (w.heap.size < q) := by show _ < _; have := HR4.out.lt; omega
    rw [e3, hq]
    clear hw e3 hb5 HR4 HA4 HS4 HW4 HB4 hq
    have hnf := U64.eql_func_nil
    go_wp2_with fail
    obtain ⟨W6, hW6⟩ : ∃ W6, W6 = W5.alloc (Obj.cells #[.int .i64 0] 3) := ⟨_, rfl⟩
    rw [← hW6, HSz.out]
    have hb6 : Below W5.heap.size W5 W6 := hW6 ▸ (Below.refl _ _).alloc (Nat.le_refl _) _
    have HRb : Hid (OneC W6 (q + 4) 3 (.int .i64 0)) := by
      rw [hW6, ← HSz.out]
      exact heap_alloc_new W5 _
    have HSz6 : Hid (W6.heap.size = q + 5) := by show _ = _; rw [hW6]; simp [HSz.out]
    have HIb6 : Hid (OneC W6 (q + 2) 3 (.int .i64 0)) := HIb.out.below hb6
    have cI := HIb6.out.cell
    have fI := HIb6.out.thawed
    have cRb := HRb.out.cell
    clear hW6
    refine wp_loop_rounds 3 ?_
    rw [rounds_succ]
    go_wp2_with fail
    have hq2 : q + 1 + 1 = q + 2 := rfl
    rw [hq2]
    have HWs : Hid (U64.SpansAt (q + 2) W6 (.slice a3 N c3) rs ∧ U64.SpansAt (q + 2) W6 (.slice a4 N c4) rs) := by
      have hb7 : Below q W5 W6 := hb6.mono (by have := HSz.out; omega)
      obtain ⟨h1, h2⟩ := HSp5.out
      exact ⟨U64.SpansAt.up (h1.below hb7) (by omega), U64.SpansAt.up (h2.below hb7) (by omega)⟩
    have HWb6 : Hid (OneC W6 q 24 (.slice a4 N c4)) := HWb.out.below hb6
    have HNb6 : Hid (OneC W6 (q + 1) 3 (.int .i64 (n : Int))) := HNb.out.below hb6
    have HR6 : Hid (OneC W6 w.heap.size 4 (.bool false)) := HR5.out.below hb6
    have HA6 : Hid (OneC W6 w3.heap.size 26 (.slice a3 N c3)) := HA5.out.below hb6
    have HB6 : Hid (Below w.heap.size w W6) := HB5.out.trans (hb6.mono HB5.out.size)
    have HC7 : Hid (Cells W6 (W6.setCell ⟨q + 2, 0, none⟩ (.int .i64 0)) q 0 (q + 4) 0 (.slice a3 N c3) []) := Cells.step (i := 0) ⟨HIb6.out, HCb.out.below hb6, HRb.out, Below.refl _ _, by have := HSz6.out; omega, by omega, fun d hd => by cases hd⟩ 0
    clear hb6 HWb HNb HR5 HA5 HB5 HIb HCb HIb6 HRb HS5 HW5 HSp5 cI fI cRb hnf
    obtain ⟨W7, hW7⟩ : ∃ W7, W6.setCell ⟨q + 2, 0, none⟩ (.int .i64 0) = W7 := ⟨_, rfl⟩
    have HS7 : Hid (W7.heap.size = q + 5) := by show _ = _; rw [← hW7]; simpa using HSz6.out
    rw [hW7] at HC7 ⊢
    clear hW7
    refine range_any (.inl rfl) HN.out hN1 ⟨hn1, hn2⟩ HC7.out (fun d hd => by cases hd) HWs.out HWb6.out HNb6.out HR6.out HRq.out (fun h => absurd h (by decide)) ?_
    intro _ D1 V1 hD1 hC1 hK1
    have HC1 : Hid (Cells W6 V1 q n (q + 4) 0 (.slice a3 N c3) [D1]) := ⟨hC1.1, hC1.2.1, hC1.2.2.1, hC1.2.2.2.1, hC1.2.2.2.2.1, hC1.2.2.2.2.2.1, fun d hd => by simp at hd; subst hd; exact hK1⟩
    have cI := hC1.1.cell
    have cRd := hC1.2.2.1.cell
    have cN := (HNb6.out.low hC1.2.2.2.1 (by omega)).cell
    have hA1 := HA6.out.low hC1.2.2.2.1 (by omega)
    have HAv1 : Hid (OneC V1 w3.heap.size 26 (.slice a3 N c3)) := hA1
    have cA := hA1.cell
    have HBv1 : Hid (Below w.heap.size w V1) := HB6.out.trans (hC1.2.2.2.1.mono (by have := HRq.out; omega))
    have HD1 : Hid (DefC V1 D1 ∧ q + 5 ≤ D1) := ⟨hK1, by have := HS7.out; omega⟩
    clear hC1 hK1 hA1 hD1
    have HSv : Hid (∀ W', Below V1.heap.size V1 W' → U64.SV W' (.slice a3 N c3) rs) := fun W' hb => spans_sv (HWs.out.1.below (HC1.out.2.2.2.1.trans (hb.mono (by have := HC1.out.2.2.2.2.1; omega)))) (by have := HC1.out.2.2.2.2.1; have := hb.size; omega)
    have HMany : Hid (∀ W', Below V1.heap.size V1 W' → Calls Try.prog 5 #[.slice am ms.length cm] W' fun e w' => ∃ a n c ts, e = .returned (.agg #[.slice a n c]) ∧ w'.cell? ⟨w3.heap.size, 0, none⟩ = some (.slice a3 N c3) ∧ Hid (Below V1.heap.size V1 w') ∧ Hid (U64.SV w' (.slice a n c) ts ∧ Canon 18446744073709551615 ts ∧ ts.length ≤ 2147483647)) := fun W' hb => by
      refine (U64.many_any (HM.out W' (HBv1.out.trans (hb.mono HBv1.out.size))) (by omega)).mono ?_
      rintro e w' ⟨v, ts, rfl, ho, hr, hb2⟩
      obtain ⟨a, c, hv, _⟩ := id ho.sv
      subst hv
      have hb' := hb.trans (hb2.mono hb.size)
      refine ⟨a, _, c, ts, rfl, (HAv1.out.below hb').cell, hb', ho.sv, hr.1, ?_⟩
      have := hr.2.2
      unfold pairs at this
      rw [pairsN_length] at this
      omega
    have HOr : Hid (∀ W' a n c ts, Below V1.heap.size V1 W' → (U64.SV W' (.slice a n c) ts ∧ Canon 18446744073709551615 ts ∧ ts.length ≤ 2147483647) → Calls Try.prog 9 #[.agg #[.slice a3 N c3], .agg #[.slice a n c]] W' fun e w' => ∃ v, e = .returned (.agg #[v]) ∧ w'.cell? ⟨w3.heap.size, 0, none⟩ = some (.slice a3 N c3) ∧ Hid (Below V1.heap.size V1 w')) := fun W' a n c ts hb h => by
      refine (U64.or_any (HSv.out W' hb) h.1 HCan.out h.2.1 (by have := h.2.2; have := HN.out; omega)).mono ?_
      rintro e w' ⟨v, _, rfl, _, _, hb2⟩
      have hb' := hb.trans (hb2.mono hb.size)
      exact ⟨v, rfl, (HAv1.out.below hb').cell, hb'⟩
    have HPair : Hid (∀ W', Below V1.heap.size V1 W' → Calls Try.prog 11 #[.int .u64 0, .int .u64 9223372036854775808] W' fun e w' => e = .returned (.agg #[.int .u64 0, .int .u64 9223372036854775808]) ∧ w'.cell? ⟨w3.heap.size, 0, none⟩ = some (.slice a3 N c3) ∧ Hid (Below V1.heap.size V1 w')) := fun W' hb => by
      refine (U64.pair_any (a := 0) (b := 9223372036854775808) (by decide) (by decide) W').mono ?_
      rintro e w' ⟨he, X, rfl⟩
      obtain rfl : e = .returned (.agg #[.int .u64 0, .int .u64 9223372036854775808]) := he
      have hb' := hb.alloc hb.size X
      exact ⟨rfl, (HAv1.out.below hb').cell, hb'⟩
    have HWo : Hid (∀ W', Below V1.heap.size V1 W' → Calls Try.prog 10 #[.agg #[.slice a3 N c3], .agg #[.int .u64 0, .int .u64 9223372036854775808]] W' fun e w' => ∃ v, e = .returned (.agg #[v]) ∧ w'.cell? ⟨w3.heap.size, 0, none⟩ = some (.slice a3 N c3) ∧ Hid (Below V1.heap.size V1 w')) := fun W' hb => by
      refine (U64.without_any (x := (0, 9223372036854775808)) (HSv.out W' hb) HCan.out (by have := HN.out; omega) (by intro x hx; simp at hx; subst hx; decide)).mono ?_
      rintro e w' ⟨v, _, rfl, _, _, hb2⟩
      have hb' := hb.trans (hb2.mono hb.size)
      exact ⟨v, rfl, (HAv1.out.below hb').cell, hb'⟩
    go_wp2_with fail
    go_region_held3 (fun w' => w'.cell? ⟨w3.heap.size, 0, none⟩ = some (.slice a3 N c3)) (go_keep) (first | (go_at_call 5; refine (HMany.out _ (Below.refl _ _).drew).mono ?_; rintro e wa1 ⟨a1x, n1x, c1x, ts1, rfl, ka1, HBa1, HTa1⟩) | (go_at_call 9; refine (HOr.out _ _ _ _ _ HBa1.out HTa1.out).mono ?_; rintro e wb1 ⟨vb1, rfl, kb1, HBb1⟩))
    go_wp2_with fail
    go_region_held3 (fun w' => w'.cell? ⟨w3.heap.size, 0, none⟩ = some (.slice a3 N c3)) (go_keep) (first | (go_at_call 11; refine (HPair.out _ HBb1.out.drew).mono ?_; rintro e wc1 ⟨rfl, kc1, HBc1⟩) | (go_at_call 10; refine (HWo.out _ HBc1.out).mono ?_; rintro e wd1 ⟨vd1, rfl, kd1, HBd1⟩))
    have HCd1 := (HC1.out.below HBd1.out)
    have cI2 := HCd1.1.cell
    have cRd2 := HCd1.2.2.1.cell
    have HCe1 : Hid (Cells W6 wd1 q _ _ _ _ _) := HCd1
    clear HCd1 HMany HOr HPair HWo HSv cI cRd cN cA
    go_wp2_with fail
    obtain ⟨rd2, hrd2⟩ : ∃ rd2, wd1.heap.size = rd2 := ⟨_, rfl⟩
    obtain ⟨W8, hW8⟩ : ∃ W8, wd1.alloc (Obj.cells #[.int .i64 1] 3) = W8 := ⟨_, rfl⟩
    have HC8 : Hid (Cells W6 W8 q n rd2 1 (.slice a3 N c3) [D1]) := by
      have h := HCe1.out.alloc (Obj.cells #[.int .i64 1] 3)
      rw [hW8] at h
      refine ⟨h.1, h.2.1, ?_, h.2.2.2.1, h.2.2.2.2.1, ?_, h.2.2.2.2.2.2⟩
      · rw [← hW8, ← hrd2]
        exact heap_alloc_new wd1 _
      · have := HCe1.out.2.2.2.2.1
        omega
    rw [hW8, hrd2]
    clear hW8 hrd2 cI2 cRd2 HCe1 HBd1 HBc1 HBb1 HBa1 HTa1 HC1 ka1 kb1 kc1 kd1
    have cI := HC8.out.1.cell
    have fI := HC8.out.1.thawed
    have cRd := HC8.out.2.2.1.cell
    rw [rounds_succ]
    go_wp2_with fail
    have HC9 : Hid (Cells W6 (W8.setCell ⟨q + 2, 0, none⟩ (.int .i64 0)) q 0 rd2 1 (.slice a3 N c3) [D1]) := HC8.out.step 0
    clear cI fI cRd
    refine range_any (.inr rfl) HN.out hN1 ⟨hn1, hn2⟩ HC9.out (fun d hd => (HC9.out.2.2.2.2.2.2 d hd).lt) HWs.out HWb6.out HNb6.out HR6.out HRq.out ?_ (fun h => absurd h (by decide))
    intro _ D2 V2 hD2 hC2 hK2
    have HC2 : Hid (Cells W6 V2 q N rd2 1 (.slice a3 N c3) [D2, D1]) := ⟨hC2.1, hC2.2.1, hC2.2.2.1, hC2.2.2.2.1, hC2.2.2.2.2.1, hC2.2.2.2.2.2.1, fun d hd => by
      rcases List.mem_cons.1 hd with rfl | hd
      · exact hK2
      · exact hC2.2.2.2.2.2.2 d hd⟩
    have cI := hC2.1.cell
    have cRd := hC2.2.2.1.cell
    have cN := (HNb6.out.low hC2.2.2.2.1 (by omega)).cell
    have hA2 := HA6.out.low hC2.2.2.2.1 (by omega)
    have HAv2 : Hid (OneC V2 w3.heap.size 26 (.slice a3 N c3)) := hA2
    have cA := hA2.cell
    have HBv2 : Hid (Below w.heap.size w V2) := HB6.out.trans (hC2.2.2.2.1.mono (by have := HRq.out; omega))
    have HD2 : Hid (q + 5 ≤ D2 ∧ D1 ≠ D2) := ⟨by have := HC9.out.2.2.2.2.1; omega, by have := (HC9.out.2.2.2.2.2.2 D1 (by simp)).lt; omega⟩
    clear hC2 hK2 hA2 hD2
    have HSv : Hid (∀ W', Below V2.heap.size V2 W' → U64.SV W' (.slice a3 N c3) rs) := fun W' hb => spans_sv (HWs.out.1.below (HC2.out.2.2.2.1.trans (hb.mono (by have := HC2.out.2.2.2.2.1; omega)))) (by have := HC2.out.2.2.2.2.1; have := hb.size; omega)
    have HMany : Hid (∀ W', Below V2.heap.size V2 W' → Calls Try.prog 5 #[.slice am ms.length cm] W' fun e w' => ∃ a n c ts, e = .returned (.agg #[.slice a n c]) ∧ w'.cell? ⟨w3.heap.size, 0, none⟩ = some (.slice a3 N c3) ∧ Hid (Below V2.heap.size V2 w') ∧ Hid (U64.SV w' (.slice a n c) ts ∧ Canon 18446744073709551615 ts ∧ ts.length ≤ 2147483647)) := fun W' hb => by
      refine (U64.many_any (HM.out W' (HBv2.out.trans (hb.mono HBv2.out.size))) (by omega)).mono ?_
      rintro e w' ⟨v, ts, rfl, ho, hr, hb2⟩
      obtain ⟨a, c, hv, _⟩ := id ho.sv
      subst hv
      have hb' := hb.trans (hb2.mono hb.size)
      refine ⟨a, _, c, ts, rfl, (HAv2.out.below hb').cell, hb', ho.sv, hr.1, ?_⟩
      have := hr.2.2
      unfold pairs at this
      rw [pairsN_length] at this
      omega
    have HOr : Hid (∀ W' a n c ts, Below V2.heap.size V2 W' → (U64.SV W' (.slice a n c) ts ∧ Canon 18446744073709551615 ts ∧ ts.length ≤ 2147483647) → Calls Try.prog 9 #[.agg #[.slice a3 N c3], .agg #[.slice a n c]] W' fun e w' => ∃ v, e = .returned (.agg #[v]) ∧ w'.cell? ⟨w3.heap.size, 0, none⟩ = some (.slice a3 N c3) ∧ Hid (Below V2.heap.size V2 w')) := fun W' a n c ts hb h => by
      refine (U64.or_any (HSv.out W' hb) h.1 HCan.out h.2.1 (by have := h.2.2; have := HN.out; omega)).mono ?_
      rintro e w' ⟨v, _, rfl, _, _, hb2⟩
      have hb' := hb.trans (hb2.mono hb.size)
      exact ⟨v, rfl, (HAv2.out.below hb').cell, hb'⟩
    have HPair : Hid (∀ W', Below V2.heap.size V2 W' → Calls Try.prog 11 #[.int .u64 0, .int .u64 9223372036854775808] W' fun e w' => e = .returned (.agg #[.int .u64 0, .int .u64 9223372036854775808]) ∧ w'.cell? ⟨w3.heap.size, 0, none⟩ = some (.slice a3 N c3) ∧ Hid (Below V2.heap.size V2 w')) := fun W' hb => by
      refine (U64.pair_any (a := 0) (b := 9223372036854775808) (by decide) (by decide) W').mono ?_
      rintro e w' ⟨he, X, rfl⟩
      obtain rfl : e = .returned (.agg #[.int .u64 0, .int .u64 9223372036854775808]) := he
      have hb' := hb.alloc hb.size X
      exact ⟨rfl, (HAv2.out.below hb').cell, hb'⟩
    have HWo : Hid (∀ W', Below V2.heap.size V2 W' → Calls Try.prog 10 #[.agg #[.slice a3 N c3], .agg #[.int .u64 0, .int .u64 9223372036854775808]] W' fun e w' => ∃ v, e = .returned (.agg #[v]) ∧ w'.cell? ⟨w3.heap.size, 0, none⟩ = some (.slice a3 N c3) ∧ Hid (Below V2.heap.size V2 w')) := fun W' hb => by
      refine (U64.without_any (x := (0, 9223372036854775808)) (HSv.out W' hb) HCan.out (by have := HN.out; omega) (by intro x hx; simp at hx; subst hx; decide)).mono ?_
      rintro e w' ⟨v, _, rfl, _, _, hb2⟩
      have hb' := hb.trans (hb2.mono hb.size)
      exact ⟨v, rfl, (HAv2.out.below hb').cell, hb'⟩
    go_wp2_with fail
    go_region_held3 (fun w' => w'.cell? ⟨w3.heap.size, 0, none⟩ = some (.slice a3 N c3)) (go_keep) (first | (go_at_call 5; refine (HMany.out _ (Below.refl _ _).drew).mono ?_; rintro e wa2 ⟨a2x, n2x, c2x, ts2, rfl, ka2, HBa2, HTa2⟩) | (go_at_call 9; refine (HOr.out _ _ _ _ _ HBa2.out HTa2.out).mono ?_; rintro e wb2 ⟨vb2, rfl, kb2, HBb2⟩))
    go_wp2_with fail
    go_region_held3 (fun w' => w'.cell? ⟨w3.heap.size, 0, none⟩ = some (.slice a3 N c3)) (go_keep) (first | (go_at_call 11; refine (HPair.out _ HBb2.out.drew).mono ?_; rintro e wc2 ⟨rfl, kc2, HBc2⟩) | (go_at_call 10; refine (HWo.out _ HBc2.out).mono ?_; rintro e wd2 ⟨vd2, rfl, kd2, HBd2⟩))
    have HCd2 := (HC2.out.below HBd2.out)
    have cI2 := HCd2.1.cell
    have cRd2 := HCd2.2.2.1.cell
    have HCe2 : Hid (Cells W6 wd2 q _ _ _ _ _) := HCd2
    clear HCd2 HMany HOr HPair HWo HSv cI cRd cN cA
    go_wp2_with fail
    obtain ⟨rd3, hrd3⟩ : ∃ rd3, wd2.heap.size = rd3 := ⟨_, rfl⟩
    obtain ⟨W10, hW10⟩ : ∃ W10, wd2.alloc (Obj.cells #[.int .i64 2] 3) = W10 := ⟨_, rfl⟩
    have HC10 : Hid (Cells W6 W10 q N rd3 2 (.slice a3 N c3) [D2, D1]) := by
      have h := HCe2.out.alloc (Obj.cells #[.int .i64 2] 3)
      rw [hW10] at h
      refine ⟨h.1, h.2.1, ?_, h.2.2.2.1, h.2.2.2.2.1, ?_, h.2.2.2.2.2.2⟩
      · rw [← hW10, ← hrd3]
        exact heap_alloc_new wd2 _
      · have := HCe2.out.2.2.2.2.1
        omega
    rw [hW10, hrd3]
    clear hW10 hrd3 cI2 cRd2 HCe2 HBd2 HBc2 HBb2 HBa2 HTa2 HC2 ka2 kb2 kc2 kd2
    have cI := HC10.out.1.cell
    have cRd := HC10.out.2.2.1.cell
    have cW := (HWb6.out.low HC10.out.2.2.2.1 (by omega)).cell
    have HA10 : Hid (OneC W10 w3.heap.size 26 (.slice a3 N c3)) := HA6.out.low HC10.out.2.2.2.1 (by omega)
    have cA := HA10.out.cell
    have HR10 : Hid (OneC W10 w.heap.size 4 (.bool false)) := HR6.out.low HC10.out.2.2.2.1 (by have := HRq.out; omega)
    have cR := HR10.out.cell
    have fR := HR10.out.thawed
    rw [rounds_succ]
    go_wp2_with fail
    have HW10 : Hid (OneC W10 q 24 (.slice a4 N c4)) := HWb6.out.low HC10.out.2.2.2.1 (by omega)
    have HCl : Hid (∀ w', Below W10.heap.size W10 w' → (w'.cell? ⟨q + 2, 0, none⟩ = some (.int .i64 (N : Int)) ∧ w'.cell? ⟨q, 0, none⟩ = some (.slice a4 N c4) ∧ w'.cell? ⟨w3.heap.size, 0, none⟩ = some (.slice a3 N c3) ∧ w'.cell? ⟨w.heap.size, 0, none⟩ = some (.bool false) ∧ w'.frozen? ⟨w.heap.size, 0, none⟩ = false)) := fun w' hb => ⟨(HC10.out.1.below hb).cell, (HW10.out.below hb).cell, (HA10.out.below hb).cell, (HR10.out.below hb).cell, (HR10.out.below hb).thawed⟩
    have hs10 : q + 2 ≤ W10.heap.size := by have := HC10.out.2.2.2.2.1; omega
    have HSp : Hid (∀ W', Below W10.heap.size W10 W' → Calls Try.prog 6 #[.agg #[.slice a3 N c3]] W' fun e w' => ∃ a c, e = .returned (.slice a N c) ∧ (w'.cell? ⟨q + 2, 0, none⟩ = some (.int .i64 (N : Int)) ∧ w'.cell? ⟨q, 0, none⟩ = some (.slice a4 N c4) ∧ w'.cell? ⟨w3.heap.size, 0, none⟩ = some (.slice a3 N c3) ∧ w'.cell? ⟨w.heap.size, 0, none⟩ = some (.bool false) ∧ w'.frozen? ⟨w.heap.size, 0, none⟩ = false) ∧ Hid (Below W10.heap.size W10 w') ∧ Hid (U64.SV w' (.slice a N c) rs)) := fun W' hb => by
      refine (U64.spans_any (spans_sv (HWs.out.1.below (HC10.out.2.2.2.1.trans (hb.mono hs10))) (by have := hb.size; omega)) (by have := HN.out; omega)).mono ?_
      rintro e w' ⟨v, rfl, ho, hb2⟩
      have hv := ho.sv
      obtain ⟨a, c, e, _⟩ := id hv
      rw [← HN.out] at e
      subst e
      have hb' := hb.trans (hb2.mono hb.size)
      exact ⟨a, c, rfl, HCl.out _ hb', hb', hv⟩
    have HSm : Hid (∀ W' a c, Below W10.heap.size W10 W' → U64.SV W' (.slice a N c) rs → Calls Try.prog 12 #[.slice a N c, .slice a4 N c4] W' fun e w' => e = .returned (.bool true) ∧ (w'.cell? ⟨q + 2, 0, none⟩ = some (.int .i64 (N : Int)) ∧ w'.cell? ⟨q, 0, none⟩ = some (.slice a4 N c4) ∧ w'.cell? ⟨w3.heap.size, 0, none⟩ = some (.slice a3 N c3) ∧ w'.cell? ⟨w.heap.size, 0, none⟩ = some (.bool false) ∧ w'.frozen? ⟨w.heap.size, 0, none⟩ = false) ∧ Hid (Below W10.heap.size W10 w')) := fun W' a c hb h => by
      refine (U64.ssame_yes h (spans_sv (HWs.out.2.below (HC10.out.2.2.2.1.trans (hb.mono hs10))) (by have := hb.size; omega))).mono ?_
      rintro e w' ⟨rfl, hb2⟩
      have hb' := hb.trans (hb2.mono hb.size)
      exact ⟨rfl, HCl.out _ hb', hb'⟩
    have hx1 : ¬ q + 2 = w.heap.size := by have := HRq.out; omega
    have hx2 : ¬ q = w.heap.size := by have := HRq.out; omega
    have hx3 : ¬ w3.heap.size = w.heap.size := fun e => by
      have h1 := HA10.out
      rw [e, OneC, show W10.heap[w.heap.size]? = _ from HR10.out] at h1
      cases h1
    have hx4 : ¬ w.heap.size = q + 2 := fun e => hx1 e.symm
    have hx5 : ¬ w.heap.size = q := fun e => hx2 e.symm
    have hx6 : ¬ w.heap.size = w3.heap.size := fun e => hx3 e.symm
    go_region_held3 (fun w' => w'.cell? ⟨q + 2, 0, none⟩ = some (.int .i64 (N : Int)) ∧ w'.cell? ⟨q, 0, none⟩ = some (.slice a4 N c4) ∧ w'.cell? ⟨w3.heap.size, 0, none⟩ = some (.slice a3 N c3)) (go_keep) (first | (go_at_call 6; refine (HSp.out _ (Below.refl _ _).drew).mono ?_; rintro e we ⟨ae, ce, rfl, ⟨k0, k1, k2, k3, k4⟩, HBe, HSe⟩) | (go_at_call 12; refine (HSm.out _ _ _ HBe.out HSe.out).mono ?_; rintro e wf ⟨rfl, ⟨m0, m1, m2, m3, m4⟩, HBf⟩))
    have HCf := HC10.out.below HBf.out
    have HDz : Hid (∀ d ∈ [D2, D1], DefC (wf.setCell ⟨w.heap.size, 0, none⟩ (.bool true)) d) := fun d hd => (Below.heap_setCell wf _ _ _ ((HCf.2.2.2.2.2.2 d hd).ne (HR10.out.below HBf.out))).trans (HCf.2.2.2.2.2.2 d hd)
    have HRz : Hid (OneC (wf.setCell ⟨w.heap.size, 0, none⟩ (.bool true)) w.heap.size 4 (.bool true)) := (HR10.out.below HBf.out).set _
    have HBw10 : Below w.heap.size w W10 := HB6.out.trans (HC10.out.2.2.2.1.mono (by have := HRq.out; omega))
    have HBz : Hid (Below w.heap.size w (wf.setCell ⟨w.heap.size, 0, none⟩ (.bool true))) := (HBw10.trans (HBf.out.mono HBw10.size)).setCell (p := ⟨w.heap.size, 0, none⟩) (Nat.le_refl _) _
    clear HCf HBw10
    go_wp2_with fail
    have hd2 := HDz.out D2 (by simp)
    have hd1 := HDz.out D1 (by simp)
    have hg2 := grownBy_putObj' (wf.setCell ⟨w.heap.size, 0, none⟩ (.bool true)) D2 (.deferred none)
    have hd1' : DefC ((wf.setCell ⟨w.heap.size, 0, none⟩ (.bool true)).putObj D2 (.deferred none)) D1 := (hg2.block D1 hd1.lt (fun e => HD2.out.2 (Option.some.inj e))).trans hd1
    have hc5 := cell_kept HRz.out.cell hg2 (fun r e => by cases e; exact ⟨_, hd2, rfl⟩)
    have hc6 := cell_kept hc5 (grownBy_putObj' _ D1 (.deferred none)) (fun r e => by cases e; exact ⟨_, hd1', rfl⟩)
    refine ⟨by simp, .inl ⟨_, _, rfl, run_takeDeferred hd2, ?_⟩⟩
    refine ⟨by simp, .inl ⟨_, _, rfl, run_takeDeferred hd1', ?_⟩⟩
    refine ⟨.bool true, ?_, rfl, (HBz.out.trans (belowK_b (w := w) (Nat.le_refl _) _ D2 _ _ (by have := HD2.out.1; have := HRq.out; omega) hd2 rfl rfl)).trans (belowK_b (w := w) (Nat.le_refl _) _ D1 _ _ (by have := HD1.out.2; have := HRq.out; omega) hd1' rfl rfl)⟩
    simp [results, Try.results3, go_sem, hc6]
end Go.Proofs.Ytabgmlnlooiddaa
