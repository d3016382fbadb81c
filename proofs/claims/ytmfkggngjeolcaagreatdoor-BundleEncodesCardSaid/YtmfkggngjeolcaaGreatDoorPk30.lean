import Derived.Test.YtmfkggngjeolcaaGreatDoorPk29
import Derived.Test.YtmfkggngjeolcaaGreatDoorPk13
import Derived.Test.YtmfkggngjeolcaaGreatDoorPk28
/- Bundle, the document's own Encode: regions (written by parts/gen_ek.py). Own work. -/
namespace Go.Proofs.YtmfkggngjeolcaaGreatDoor
open Go.RowKit Bn Ek
set_option linter.unusedVariables false
set_option linter.unusedSimpArgs false
namespace Ek
def gdD (g : Gd) (s : S) : S := zerosS ((8 - g.txt.size % 8) % 8) (bytesS (sb g.txt) (numD 4 (g.txt.size : Int) (zerosS 3 (numD 1 (g.fill : Int) (longS g.sz (longS g.ad s))))))
end Ek
theorem gdD_le (g : Gd) (s : S) : (gdD g s).1.length ≤ s.1.length + (31 + g.txt.size) := by
  rw [gdD, zeros_len, bytes_len, num_len, zeros_len, num_len, long_len, long_len, sb_length]
  omega
theorem gdsD_le : ∀ (xs : List Gd) (s : S), (eachS gdD xs s).1.length ≤ s.1.length + gsum xs
  | [], s => Nat.le_refl _
  | x :: xs, s => by
    rw [eachS, gsum]
    have := gdsD_le xs (gdD x s)
    have := gdD_le x s
    omega
theorem step_append_strG {w : World} {ops : Array Oper} {o : Oper} {a : Act} {K : Act → World → Prop} {Q : Exit → Act → World → Prop} {E : Prop} (hw : Region.wanted o (yielded ops a.tmps) = true) (s x : Operand)
    (ho : o.op = .call { callee := .builtin .append, args := #[s, x], argTypes := #[43, 9] })
    {base g n cap : Nat} {t : ByteArray} {xs : List Nat} (hs : a.eval s = .slice (some ⟨g, 0, none⟩) n cap) (hown : Own w base (.slice (some ⟨g, 0, none⟩) n cap) xs) (hx : a.eval x = .string t) (hb : xs.length + t.size ≤ 1099511627776) (hbase : base ≤ w.heap.size)
    (h : ∀ v' w', Own w' base v' (xs ++ sb t) → w.grownBy w' (some g) → (v'.ownBlock = some g ∨ v'.ownBlock = some w.heap.size) → K (a.put o.dst v') w') : if Region.wanted o (yielded ops a.tmps) = true then Oper.wp Tryz.prog o a w K Q else E := by
  rw [if_pos hw]
  obtain ⟨v', w', hr, h2, h3, h4⟩ := run_append_str o.type t hown hb hbase
  unfold Oper.wp execOp
  simp only [ho, resolve, invoke, builtin, Sem.run_bind, Sem.run_pure, Result.andThen_ok, List.map_toArray, List.map_cons, List.map_nil, hs, hx, hr]
  exact h v' w' h2 h3 h4
set_option maxRecDepth 100000 in
set_option maxHeartbeats 8000000 in
theorem kregionsX {w : World} {v : Value} {xs : List Gd} (hgs : gsum xs ≤ 260000000000) (hr : RowG 4 gdE w v xs) (hok : ∀ x ∈ xs, gdOk x) (hl : xs.length ≤ 16000000) : Calls Tryz.prog 32 #[v] w (LdR w (eachS gdD xs (manyD xs.length ([], 0)))) := by
  have HR : Hid (∀ W, Below w.heap.size w W → RowG 4 gdE W v xs) := fun W hW => hr.below hW
  have HOk : Hid (∀ x ∈ xs, gdOk x) := hok
  obtain ⟨ao, cap, rfl, q1, q2, q3⟩ := hr
  clear q3
  unfold maxLen at q2
  obtain ⟨hb1, hb2, hb3⟩ := ld_begin w
  have HS0 := Lib.hid hb1
  have HRes := Lib.hid hb2
  have HB0 := Lib.hid hb3
  obtain ⟨n, hn⟩ : ∃ n, xs.length = n := ⟨_, rfl⟩
  have HN := Lib.hid hn
  rw [hn] at q1 hl HR ⊢
  have HGs : Hid (gsum xs ≤ 260000000000) := hgs
  clear hgs hn hok hb1 hb2 hb3
  obtain ⟨s0, hs0⟩ : ∃ s0, manyD n ([], 0) = s0 := ⟨_, rfl⟩
  have HL0 : Hid (s0.1.length = 8) := show _ = _ by rw [← hs0, manyD_len]; rfl
  have HS00 := Lib.hid hs0
  rw [hs0]
  clear hs0
  go_enter Tryz.func32, Tryz.ntmps32
  go_upto_region 2 with fail
  generalize ((w.alloc (.cells #[.slice none 0 0, .int .i64 0] 101)).alloc (.cells #[.slice none 0 0, .int .i64 0] 101)) = W1 at *
  have HBw : Hid (∀ W t, Ld (w.heap.size + 1) (w.heap.size + 1) W1 t W → Below w.heap.size w W) := fun W t hW => HB0.out.trans (hW.bl.mono (Nat.le_succ _))
  go_wp2_with fail
  refine (kcountX HS0.out (n := n) (by omega) (by decide)).mono ?_
  rintro e w1 ⟨rfl, hc⟩
  rw [HS00.out] at hc
  clear HS0 HS00
  have H0 : Hid (Ld (w.heap.size + 1) (w.heap.size + 1) W1 (eachS gdD (xs.take 0) s0) _) := Lib.hid hc
  clear hc
  go_wp2_with fail
  go_loopw [4] (fun iv wr => ∃ i : Nat, i ≤ n ∧ iv = .int .i64 (i : Int) ∧ Hid (Ld (w.heap.size + 1) (w.heap.size + 1) W1 (eachS gdD (xs.take i) s0) wr)) (fun iv _ => n - (intOf iv).toNat)
  case atStart => exact ⟨0, Nat.zero_le _, rfl, H0⟩
  case round =>
    clear H0
    obtain ⟨i, hi, rfl, HI⟩ := hrel
    by_cases hin : i < n
    · have ji : (i : Int) < (n : Int) := by omega
      have hix : i < xs.length := by rw [HN.out]; exact hin
      have hw1 : IntKind.i64.wrap ((i : Int) + 1) = ((i + 1 : Nat) : Int) := by rw [IntKind.wrap_i64]; omega
      have HCell : Hid (∀ W t, Ld (w.heap.size + 1) (w.heap.size + 1) W1 t W → ∃ b of, ao = some ⟨b, of, none⟩ ∧ ∀ j, j < 4 → W.cell? ⟨b, of + i * 4 + j, none⟩ = (gdE xs[i])[j]?) := fun W t hW => by
        obtain ⟨_, _, e', _, _, hc⟩ := HR.out W (HBw.out W t hW)
        simp only [Value.slice.injEq] at e'
        obtain ⟨rfl, e9, rfl⟩ := e'
        obtain ⟨b, of, e, _, hc⟩ := hc i hix
        exact ⟨b, of, e, hc⟩
      obtain ⟨b, of, rfl, hz⟩ := HCell.out _ _ HI.out
      clear hz
      have hok1 := HOk.out xs[i] (List.getElem_mem _)
      have HE : Hid (eachS gdD (xs.take (i + 1)) s0 = gdD xs[i] (eachS gdD (xs.take i) s0)) := eachS_take _ _ _ _ hix
      have HLi : Hid ((eachS gdD (xs.take i) s0).1.length + 32 ≤ 549755813888) := show _ ≤ _ by
        have h6 := gdsD_le (xs.take i) s0
        have h7 := gsum_take xs i
        have := HGs.out
        have := HL0.out
        omega
      generalize eachS gdD (xs.take i) s0 = si at HI HE HLi
      generalize xs[i] = x at *
      obtain ⟨x0, x1, x2, x3⟩ := x
      obtain ⟨k0, k1, k2, k3⟩ := hok1
      simp only at k0 k1 k2 k3
      have hwf : IntKind.i64.wrap (x2 : Int) = (x2 : Int) := by rw [IntKind.wrap_i64]; omega
      obtain ⟨r, hr⟩ : ∃ r, x3.size % 8 = r := ⟨_, rfl⟩
      have hm1 : Int.tmod (x3.size : Int) 8 = (r : Int) := by rw [← hr]; rfl
      have hr8 : r < 8 := by omega
      have hm2 : IntKind.i64.wrap (8 - (r : Int)) = ((8 - r : Nat) : Int) := by rw [IntKind.wrap_i64]; omega
      obtain ⟨u, hu⟩ : ∃ u, 8 - r = u := ⟨_, rfl⟩
      rw [hu] at hm2
      obtain ⟨pz, hp⟩ : ∃ pz, u % 8 = pz := ⟨_, rfl⟩
      have hm3 : Int.tmod (u : Int) 8 = (pz : Int) := by rw [← hp]; rfl
      have HP9 : Hid (pz ≤ 7) := Lib.hid (by omega)
      have HP8 : Hid ((8 - x3.size % 8) % 8 = pz) := Lib.hid (by rw [hr, hu, hp])
      clear hr hr8 hu hp
      replace HCell : Hid (∀ W t, Ld (w.heap.size + 1) (w.heap.size + 1) W1 t W → W.cell? ⟨b, of + i * 4, none⟩ = some (.int .u64 (x0 : Int)) ∧ W.cell? ⟨b, of + i * 4 + 1, none⟩ = some (.int .u64 (x1 : Int)) ∧ W.cell? ⟨b, of + i * 4 + 2, none⟩ = some (.int .u8 (x2 : Int)) ∧ W.cell? ⟨b, of + i * 4 + 3, none⟩ = some (.string x3)) := fun W t hW => by
        obtain ⟨_, _, e, hc⟩ := HCell.out W t hW
        cases e
        refine ⟨?_, ?_, ?_, ?_⟩
        · exact (hc 0 (by decide)).trans rfl
        · exact (hc 1 (by decide)).trans rfl
        · exact (hc 2 (by decide)).trans rfl
        · exact (hc 3 (by decide)).trans rfl
      obtain ⟨c0, c1, c2, c3⟩ := HCell.out _ _ HI.out
      go_wp2_with fail
      refine (klongX HI.out (m := x0) k0 (by (try simp only [num_len, noneD_len, flagD_len, manyD_len, zeros_len, long_len, field_len]); have := HLi.out; omega)).mono ?_
      rintro e w1 ⟨rfl, h1⟩
      clear c0 c1 c2 c3
      obtain ⟨c0, c1, c2, c3⟩ := HCell.out _ _ h1
      have HS1 := Lib.hid h1
      clear h1 HI
      go_wp2_with fail
      refine (klongX HS1.out (m := x1) k1 (by (try simp only [num_len, noneD_len, flagD_len, manyD_len, zeros_len, long_len, field_len]); have := HLi.out; omega)).mono ?_
      rintro e w2 ⟨rfl, h2⟩
      clear c0 c1 c2 c3
      obtain ⟨c0, c1, c2, c3⟩ := HCell.out _ _ h2
      have HS2 := Lib.hid h2
      clear h2 HS1
      go_wp2_with fail
      refine (knum1X HS2.out (k := (x2 : Int)) ⟨by omega, by omega⟩ (by (try simp only [num_len, noneD_len, flagD_len, manyD_len, zeros_len, long_len, field_len]); have := HLi.out; omega)).mono ?_
      rintro e w3 ⟨rfl, h3⟩
      clear c0 c1 c2 c3
      obtain ⟨c0, c1, c2, c3⟩ := HCell.out _ _ h3
      have HS3 := Lib.hid h3
      clear h3 HS2
      go_wp2_with fail
      refine (kzeros3X HS3.out (by (try simp only [num_len, noneD_len, flagD_len, manyD_len, zeros_len, long_len, field_len]); have := HLi.out; omega)).mono ?_
      rintro e w4 ⟨rfl, h4⟩
      clear c0 c1 c2 c3
      obtain ⟨c0, c1, c2, c3⟩ := HCell.out _ _ h4
      have HS4 := Lib.hid h4
      clear h4 HS3
      go_wp2_with fail
      refine (knum4X HS4.out (k := (x3.size : Int)) ⟨by omega, by omega⟩ (by (try simp only [num_len, noneD_len, flagD_len, manyD_len, zeros_len, long_len, field_len]); have := HLi.out; omega)).mono ?_
      rintro e w5 ⟨rfl, h5⟩
      clear c0 c1 c2 c3
      obtain ⟨c0, c1, c2, c3⟩ := HCell.out _ _ h5
      have HS5 := Lib.hid h5
      clear h5 HS4
      obtain ⟨v7, h7⟩ := HS5.out
      have HV7 := Lib.hid h7
      have HV7d := Lib.hid (h7.below (w' := w5.drew) ⟨rfl, rfl, rfl, Nat.le_refl _, fun _ _ => rfl⟩)
      obtain ⟨g7, cap7, e7, _, _, _, _⟩ := h7.own.form (by (try simp only [num_len, zeros_len, long_len]); omega)
      subst e7
      have p0 := h7.cell0
      have pf := h7.free 0
      have HLn7 : Hid (_ ≤ 1099511627776) := Lib.hid (show (numD 4 (x3.size : Int) (zerosS 3 (numD 1 (x2 : Int) (longS x1 (longS x0 si))))).1.length + x3.size + 8 ≤ 1099511627776 by (simp only [num_len, zeros_len, long_len]); have := HLi.out; omega)
      have HSb7 := Lib.hid (sb_small x3)
      clear h7 HS5
      obtain ⟨s7, hs7⟩ : ∃ s7, numD 4 (x3.size : Int) (zerosS 3 (numD 1 (x2 : Int) (longS x1 (longS x0 si)))) = s7 := ⟨_, rfl⟩
      rw [hs7] at HV7 HV7d HLn7 p0
      obtain ⟨n7, hn7⟩ : ∃ n7, s7.1.length = n7 := ⟨_, rfl⟩
      rw [hn7] at HV7 HV7d p0
      have HN7 := Lib.hid hn7
      clear hn7
      have HS7 := Lib.hid hs7
      clear hs7
      go_upto_region 11 with fail
      go_region_law (first
        | (refine step_append_strG (by rfl) (.tmp 43) (.tmp 48) (by rfl) (by rfl) HV7d.out.own (by rfl) (by have := HLn7.out; omega) HV7d.out.le ?_; intro v8 w8 h8 g8 l8; have hc8 := lcell0_of (HV7d.out.after g8); have ht8 := lfree_of (HV7d.out.after g8); obtain ⟨ao8, n8, c8, hv8⟩ : ∃ a m c, v8 = .slice a m c := (by obtain ⟨a, c, e⟩ := own_slice h8; exact ⟨a, _, c, e⟩); subst hv8; have HF8 := Lib.hid (HV7d.out.stored h8 g8 l8 HSb7.out); clear h8 g8 l8))
      all_goals
        have HS9 : Hid (Ld (w.heap.size + 1) (w.heap.size + 1) W1 (bytesS (sb x3) s7) _) := HF8
        clear HF8 HV7 HV7d p0 pf hc8 ht8 c0 c1 c2 c3
        obtain ⟨c0, c1, c2, c3⟩ := HCell.out _ _ HS9.out
        go_wp2_with fail
        refine (kzerosX HS9.out (c := pz) (by rw [bytes_len, sb_length]; have := HLn7.out; have := HP9.out; omega)).mono ?_
        rintro e w10 ⟨rfl, h10⟩
        have HS10 := Lib.hid h10
        clear h10 HS9
        rw [← HS7.out, ← HP8.out] at HS10
        go_wp2_with fail
        go_roundw
        case rel => exact ⟨i + 1, by omega, rfl, by rw [HE.out]; exact HS10⟩
        case measure => simp [intOf]; omega
    · obtain rfl : i = n := by omega
      have ji : ¬ (i : Int) < (i : Int) := by omega
      have HE : Hid (eachS gdD (xs.take i) s0 = eachS gdD xs s0) := show _ = _ by rw [List.take_of_length_le (by rw [HN.out]; exact Nat.le_refl _)]
      rw [HE.out] at HI
      generalize eachS gdD xs s0 = sz at *
      obtain ⟨v, h9⟩ := HI.out
      obtain ⟨a9, p9, rfl⟩ := own_slice h9.own
      have d0 := h9.cell0
      have d1 := h9.cell1
      have hr9 := ld_res HI.out HRes.out
      have g0 : _ = some (Value.slice none 0 0) := cell_of_row _ _ 0 _ _ _ hr9
      have g1 : _ = some (Value.int .i64 0) := cell_of_row _ _ 1 _ _ _ hr9
      have f0 := box_free hr9 0
      have f1 := box_free hr9 1
      have HEnd := Lib.hid (ld_end h9 HRes.out HB0.out rfl _ rfl)
      clear h9 hr9 HI HRes HB0 HBw
      go_wp2_with fail
      obtain ⟨k0, k1, kR⟩ := HEnd.out
      refine bodyPost_ret (by simp [results, Tryz.results32, go_sem, k0, k1]) rfl kR
end Go.Proofs.YtmfkggngjeolcaaGreatDoor
/- Bundle, the document's own Encode: tables. Own work. -/
namespace Go.Proofs.YtmfkggngjeolcaaGreatDoor
open Go.RowKit Bn Ek
set_option linter.unusedVariables false
set_option linter.unusedSimpArgs false
theorem tb_len (f : Nat → Nat) (k : Nat) : (tb f k).length = 8 * k := by rw [tb_eq, tbN_len]
theorem tb_next (f : Nat → Nat) (j : Nat) (s : S) : longS (f j) (bytesS (tb f j) s) = bytesS (tb f (j + 1)) s := by
  unfold longS bytesS
  rw [tb, List.append_assoc]
set_option maxRecDepth 100000 in
set_option maxHeartbeats 8000000 in
theorem ktablesX {w : World} {v : Value} {xs : List (Nat → Nat)} (hr : TbG w v xs) (hok : ∀ x ∈ xs, tbOk x) (hl : xs.length ≤ 1024) : Calls Tryz.prog 36 #[v] w (LdR w (eachS tabS xs ([], 0))) := by
  have HR : Hid (∀ W, Below w.heap.size w W → TbG W v xs) := fun W hW => hr.below hW
  have HOk : Hid (∀ x ∈ xs, tbOk x) := hok
  obtain ⟨ao, cap, rfl, q1, q2, q3⟩ := hr
  clear q3
  unfold maxLen at q2
  obtain ⟨hb1, hb2, hb3⟩ := ld_begin w
  have HS0 := Lib.hid hb1
  have HRes := Lib.hid hb2
  have HB0 := Lib.hid hb3
  obtain ⟨n, hn⟩ : ∃ n, xs.length = n := ⟨_, rfl⟩
  have HN := Lib.hid hn
  rw [hn] at q1 hl HR ⊢
  clear hn hok hb1 hb2 hb3
  obtain ⟨s0, hs0⟩ : ∃ s0 : S, (([], 0) : S) = s0 := ⟨_, rfl⟩
  have HL0 : Hid (s0.1.length = 0) := show _ = _ by rw [← hs0]; rfl
  rw [hs0] at HS0 ⊢
  clear hs0
  obtain ⟨sz, hsz⟩ : ∃ sz, eachS tabS xs s0 = sz := ⟨_, rfl⟩
  rw [hsz]
  have HSz := Lib.hid hsz
  clear hsz
  go_enter Tryz.func36, Tryz.ntmps36
  go_upto_region 2 with fail
  generalize ((w.alloc (.cells #[.slice none 0 0, .int .i64 0] 101)).alloc (.cells #[.slice none 0 0, .int .i64 0] 101)) = W1 at *
  have HBw : Hid (∀ W t, Ld (w.heap.size + 1) (w.heap.size + 1) W1 t W → Below w.heap.size w W) := fun W t hW => HB0.out.trans (hW.bl.mono (Nat.le_succ _))
  have H0 : Hid (Ld (w.heap.size + 1) (w.heap.size + 1) W1 (eachS tabS (xs.take 0) s0) W1) := HS0
  clear HS0
  go_wp2_with fail
  go_loopw [4] (fun iv wr => ∃ i : Nat, i ≤ n ∧ iv = .int .i64 (i : Int) ∧ Hid (Ld (w.heap.size + 1) (w.heap.size + 1) W1 (eachS tabS (xs.take i) s0) wr)) (fun iv _ => n - (intOf iv).toNat)
  case atStart => exact ⟨0, Nat.zero_le _, rfl, H0⟩
  case round =>
    clear H0
    obtain ⟨i, hi, rfl, HI⟩ := hrel
    by_cases hin : i < n
    · have ji : (i : Int) < (n : Int) := by omega
      have hix : i < xs.length := by rw [HN.out]; exact hin
      have hw1 : IntKind.i64.wrap ((i : Int) + 1) = ((i + 1 : Nat) : Int) := by rw [IntKind.wrap_i64]; omega
      have HCell : Hid (∀ W t, Ld (w.heap.size + 1) (w.heap.size + 1) W1 t W → ∃ b of, ao = some ⟨b, of, none⟩ ∧ ∀ p, p < 512 → W.cell? ⟨b, of + i * 512 + p, none⟩ = some (.int .u64 (xs[i] p : Int))) := fun W t hW => by
        obtain ⟨_, _, e', _, _, hc⟩ := HR.out W (HBw.out W t hW)
        simp only [Value.slice.injEq] at e'
        obtain ⟨rfl, e9, rfl⟩ := e'
        exact hc i hix
      obtain ⟨b, of, rfl, hz⟩ := HCell.out _ _ HI.out
      clear hz
      have HOk1 : Hid (tbOk xs[i]) := HOk.out xs[i] (List.getElem_mem _)
      have HE : Hid (eachS tabS (xs.take (i + 1)) s0 = bytesS (tb xs[i] 512) (eachS tabS (xs.take i) s0)) := eachS_take _ _ _ _ hix
      have HLi : Hid ((eachS tabS (xs.take i) s0).1.length ≤ 4194304) := show _ ≤ _ by
        rw [each_len tab_len, List.length_take, HL0.out]
        omega
      generalize eachS tabS (xs.take i) s0 = si at HI HE HLi
      generalize xs[i] = f at *
      replace HCell : Hid (∀ W t j, j < 512 → Ld (w.heap.size + 1) (w.heap.size + 1) W1 t W → W.cell? ⟨b, of + i * 512 + j, none⟩ = some (.int .u64 (f j : Int))) := fun W t j hj hW => by
        obtain ⟨_, _, e, hc⟩ := HCell.out W t hW
        cases e
        exact hc j hj
      have HJ0 : Hid (Ld (w.heap.size + 1) (w.heap.size + 1) W1 (bytesS (tb f 0) si) wr) := show Ld _ _ _ _ _ by
        rw [show bytesS (tb f 0) si = si by simp [bytesS, tb]]
        exact HI.out
      clear HI
      obtain ⟨wA, hwA⟩ : ∃ x, x = wr := ⟨_, rfl⟩
      subst hwA
      go_wp2_with fail
      go_loopw [5] (fun jv wr => ∃ j : Nat, j ≤ 512 ∧ jv = .int .i64 (j : Int) ∧ Hid (Ld (w.heap.size + 1) (w.heap.size + 1) W1 (bytesS (tb f j) si) wr)) (fun jv _ => 512 - (intOf jv).toNat)
      case atStart => exact ⟨0, by omega, rfl, HJ0⟩
      case round =>
        clear HJ0
        obtain ⟨j, hj, rfl, HJ⟩ := hrel
        by_cases hjn : j < 512
        · have jj : (j : Int) < 512 := by omega
          have hw2 : IntKind.i64.wrap ((j : Int) + 1) = ((j + 1 : Nat) : Int) := by rw [IntKind.wrap_i64]; omega
          have c := HCell.out _ _ j hjn HJ.out
          have hf := HOk1.out j hjn
          have HE2 : Hid (longS (f j) (bytesS (tb f j) si) = bytesS (tb f (j + 1)) si) := tb_next f j si
          have HL2 : Hid ((bytesS (tb f j) si).1.length ≤ 549755813888) := show _ ≤ _ by rw [bytes_len, tb_len]; have := HLi.out; omega
          generalize bytesS (tb f j) si = sj at HJ HE2 HL2
          generalize f j = fj at *
          go_wp2_with fail
          refine (klongX HJ.out (m := fj) hf HL2.out).mono ?_
          rintro e w2 ⟨rfl, h2⟩
          rw [HE2.out] at h2
          have H2 := Lib.hid h2
          clear h2 HJ c
          go_wp2_with fail
          go_roundw
          case rel => exact ⟨j + 1, by omega, rfl, H2⟩
          case measure => simp [intOf]; omega
        · obtain rfl : j = 512 := by omega
          rw [← HE.out] at HJ
          go_wp2_with fail
          go_roundw
          case rel => exact ⟨i + 1, by omega, rfl, HJ⟩
          case measure => simp [intOf]; omega
    · obtain rfl : i = n := by omega
      have ji : ¬ (i : Int) < (i : Int) := by omega
      have HE : Hid (eachS tabS (xs.take i) s0 = eachS tabS xs s0) := show _ = _ by rw [List.take_of_length_le (by rw [HN.out]; exact Nat.le_refl _)]
      rw [HE.out, HSz.out] at HI
      obtain ⟨v, h9⟩ := HI.out
      obtain ⟨a9, p9, rfl⟩ := own_slice h9.own
      have d0 := h9.cell0
      have d1 := h9.cell1
      have hr9 := ld_res HI.out HRes.out
      have g0 : _ = some (Value.slice none 0 0) := cell_of_row _ _ 0 _ _ _ hr9
      have g1 : _ = some (Value.int .i64 0) := cell_of_row _ _ 1 _ _ _ hr9
      have f0 := box_free hr9 0
      have f1 := box_free hr9 1
      have HEnd := Lib.hid (ld_end h9 HRes.out HB0.out rfl _ rfl)
      clear h9 hr9 HI HRes HB0 HBw
      go_wp2_with fail
      obtain ⟨k0, k1, kR⟩ := HEnd.out
      refine bodyPost_ret (v := .agg #[.slice a9 sz.1.length p9, .int .i64 sz.2]) (by simp [results, Tryz.results36, go_sem, k0, k1]) rfl kR
end Go.Proofs.YtmfkggngjeolcaaGreatDoor
/- Bundle, the document's own Encode: up, places, worst. Own work. -/
namespace Go.Proofs.YtmfkggngjeolcaaGreatDoor
open Go.RowKit Bn Ek
set_option linter.unusedVariables false
set_option linter.unusedSimpArgs false
namespace Ek
/-- where a section begins -/
def begD (k a : Nat) : Nat := if k = 7 then Bn.upN (Bn.upN a 8) 4096 else Bn.upN a 8
def plc : Nat → Nat → List Nat → List Nat × Nat
  | _, a, [] => ([], a)
  | k, a, l :: ls => (begD k a :: (plc (k + 1) (begD k a + l) ls).1, (plc (k + 1) (begD k a + l) ls).2)
theorem plc_snoc : ∀ (ls : List Nat) (k a l : Nat), plc k a (ls ++ [l]) = ((plc k a ls).1 ++ [begD (k + ls.length) (plc k a ls).2], begD (k + ls.length) (plc k a ls).2 + l)
  | [], k, a, l => rfl
  | x :: ls, k, a, l => by
    rw [List.cons_append, plc, plc_snoc ls, plc, List.length_cons]
    rw [show k + 1 + ls.length = k + (ls.length + 1) by omega]
    rfl
theorem plc_len : ∀ (ls : List Nat) (k a : Nat), (plc k a ls).1.length = ls.length
  | [], _, _ => rfl
  | x :: ls, k, a => by rw [plc, List.length_cons, plc_len ls, List.length_cons]
theorem begD_le (k a : Nat) : begD k a ≤ a + 4102 ∧ a ≤ begD k a := by
  unfold begD Bn.upN
  split <;> (repeat' split) <;> omega
def ntE (n : Nat) : List Value := [.int .i64 (n : Int)]
theorem nt_ok : EncOk 1 ntE := ⟨fun _ => rfl, fun x u hu => by simp [ntE] at hu; rcases hu with rfl | rfl <;> rfl⟩
def worstD (I : Im) : Int := if 0 < I.base % 4096 then 132 else if I.regs.any (fun g => decide (1048576 < g.txt.size)) then 3 else 0
end Ek
set_option maxHeartbeats 1000000 in
theorem kup8 {a : Nat} (ha : a ≤ 4611686018427387904) (w : World) : Calls Tryz.prog 83 #[.int .i64 (a : Int), .int .i64 8] w fun e w' => e = .returned (.int .i64 (Bn.upN a 8 : Nat)) ∧ w' = w := by
  have h1 : IntKind.i64.wrap ((a : Int) + 8) = ((a + 8 : Nat) : Int) := by rw [IntKind.wrap_i64]; omega
  have h2 : IntKind.i64.wrap (((a + 8 : Nat) : Int) - 1) = ((a + 7 : Nat) : Int) := by rw [IntKind.wrap_i64]; omega
  have h3 : Int.tdiv ((a + 7 : Nat) : Int) 8 = (((a + 7) / 8 : Nat) : Int) := rfl
  have hq : (a + 7) / 8 * 8 = Bn.upN a 8 := by unfold Bn.upN; split <;> omega
  obtain ⟨q, hq1⟩ : ∃ q, (a + 7) / 8 = q := ⟨_, rfl⟩
  rw [hq1] at h3 hq
  have hql : q ≤ 4611686018427387904 := by omega
  have h5 : IntKind.i64.wrap (q : Int) = (q : Int) := by rw [IntKind.wrap_i64]; omega
  have h4 : IntKind.i64.wrap ((q : Int) * 8) = ((Bn.upN a 8 : Nat) : Int) := by rw [← hq, IntKind.wrap_i64]; omega
  generalize Bn.upN a 8 = u at *
  generalize a + 7 = a7 at *
  generalize a + 8 = a8 at *
  clear hq hq1 hql ha
  go_enter Tryz.func83, Tryz.ntmps83
  go_wp2
  go_ret
  exact ⟨rfl, rfl⟩
set_option maxHeartbeats 1000000 in
theorem kup4 {a : Nat} (ha : a ≤ 4611686018427387904) (w : World) : Calls Tryz.prog 83 #[.int .i64 (a : Int), .int .i64 4096] w fun e w' => e = .returned (.int .i64 (Bn.upN a 4096 : Nat)) ∧ w' = w := by
  have h1 : IntKind.i64.wrap ((a : Int) + 4096) = ((a + 4096 : Nat) : Int) := by rw [IntKind.wrap_i64]; omega
  have h2 : IntKind.i64.wrap (((a + 4096 : Nat) : Int) - 1) = ((a + 4095 : Nat) : Int) := by rw [IntKind.wrap_i64]; omega
  have h3 : Int.tdiv ((a + 4095 : Nat) : Int) 4096 = (((a + 4095) / 4096 : Nat) : Int) := rfl
  have hq : (a + 4095) / 4096 * 4096 = Bn.upN a 4096 := by unfold Bn.upN; split <;> omega
  obtain ⟨q, hq1⟩ : ∃ q, (a + 4095) / 4096 = q := ⟨_, rfl⟩
  rw [hq1] at h3 hq
  have hql : q ≤ 4611686018427387904 := by omega
  have h5 : IntKind.i64.wrap (q : Int) = (q : Int) := by rw [IntKind.wrap_i64]; omega
  have h4 : IntKind.i64.wrap ((q : Int) * 4096) = ((Bn.upN a 4096 : Nat) : Int) := by rw [← hq, IntKind.wrap_i64]; omega
  generalize Bn.upN a 4096 = u at *
  generalize a + 4095 = a7 at *
  generalize a + 4096 = a8 at *
  clear hq hq1 hql ha
  go_enter Tryz.func83, Tryz.ntmps83
  go_wp2
  go_ret
  exact ⟨rfl, rfl⟩
set_option maxRecDepth 100000 in
set_option maxHeartbeats 8000000 in
theorem kworstX {w : World} {im : List Value} {I : Im} (h : ImA w im I) (hl : I.regs.length ≤ 16000000) : Calls Tryz.prog 37 #[.agg im.toArray] w fun e w' => e = .returned (.int .i64 (worstD I)) ∧ Below w.heap.size w w' := by
  obtain ⟨v, hv, hr, hok⟩ := h.regs
  have hbx : (w.alloc (.cells im.toArray 33)).heap[w.heap.size]? = some (.cells im.toArray 33 (0, 0)) := heap_alloc_new w _
  have hB : Below w.heap.size w (w.alloc (.cells im.toArray 33)) := (Below.refl _ _).alloc (Nat.le_refl _) _
  have HB := Lib.hid hB
  have c0 := (box_cell hbx 0).trans h.base.1
  have c5 := (box_cell hbx 5).trans hv
  have hRr := hr.below hB
  have HOk : Hid (∀ x ∈ I.regs, gdOk x) := hok
  obtain ⟨ao, cap, rfl, q1, q2, q3⟩ := hRr
  have HRr : Hid (∀ i (h : i < I.regs.length), ∃ b o, ao = some ⟨b, o, none⟩ ∧ b < (w.alloc (.cells im.toArray 33)).heap.size ∧ ∀ j, j < 4 → (w.alloc (.cells im.toArray 33)).cell? ⟨b, o + i * 4 + j, none⟩ = (gdE I.regs[i])[j]?) := q3
  unfold maxLen at q2
  have hbase := h.base.2
  clear q3 hB hbx h hr hv hok
  have hm : ((I.base : Nat) : Int) % 4096 = ((I.base % 4096 : Nat) : Int) := rfl
  have hm2 : Int.tmod ((I.base : Nat) : Int) 4096 = ((I.base % 4096 : Nat) : Int) := rfl
  have HW : Hid (worstD I = if 0 < I.base % 4096 then 132 else if I.regs.any (fun g => decide (1048576 < g.txt.size)) then 3 else 0) := (rfl : _ = _)
  rw [HW.out]
  clear HW
  generalize I.base % 4096 = r at *
  generalize I.base = bs at *
  generalize I.regs = xs at *
  obtain ⟨n, hn⟩ : ∃ n, xs.length = n := ⟨_, rfl⟩
  have HN := Lib.hid hn
  rw [hn] at q1 c5 hl
  clear hn
  have hrw : IntKind.u64.wrap (r : Int) = (r : Int) ∨ True := .inr trivial
  clear hrw
  by_cases h0 : 0 < r
  · rw [if_pos h0]
    have j0 : (0 : Int) < (r : Int) := by omega
    clear h0
    go_enter Tryz.func37, Tryz.ntmps37
    go_wp2_with fail
    go_ret
    exact ⟨rfl, HB.out⟩
  · rw [if_neg h0]
    have j0 : ¬ (0 : Int) < (r : Int) := by omega
    clear h0
    obtain ⟨R, hR⟩ : ∃ R : Int, (if xs.any (fun g => decide (1048576 < g.txt.size)) then (3 : Int) else 0) = R := ⟨_, rfl⟩
    rw [hR]
    have HR := Lib.hid hR
    clear hR
    go_enter Tryz.func37, Tryz.ntmps37
    go_wp2_with fail
    go_loop [3] (fun iv => ∃ i : Nat, i ≤ n ∧ iv = .int .i64 (i : Int) ∧ Hid (∀ j (h : j < xs.length), j < i → xs[j].txt.size ≤ 1048576)) (fun iv => n - (intOf iv).toNat)
    case atStart => exact ⟨0, Nat.zero_le _, rfl, Lib.hid (fun j _ h => absurd h (Nat.not_lt_zero _))⟩
    case round =>
      obtain ⟨i, hi, rfl, HI⟩ := hrel
      by_cases hin : i < n
      · have ji : (i : Int) < (n : Int) := by omega
        have hix : i < xs.length := by rw [HN.out]; exact hin
        have hw1 : IntKind.i64.wrap ((i : Int) + 1) = ((i + 1 : Nat) : Int) := by rw [IntKind.wrap_i64]; omega
        obtain ⟨b, of, rfl, _, hc⟩ := HRr.out i hix
        have a3 := hc 3 (by decide)
        clear hc
        have HT : Hid (xs[i].txt.size ≤ 1048576 → ∀ j (h : j < xs.length), j < i + 1 → xs[j].txt.size ≤ 1048576) := fun ht j hj hlt => by
          by_cases e : j = i
          · subst e; exact ht
          · exact HI.out j hj (by omega)
        have HA : Hid (1048576 < xs[i].txt.size → R = 3) := fun ht => by
          rw [← HR.out, if_pos]
          exact List.any_eq_true.2 ⟨xs[i], List.getElem_mem _, decide_eq_true ht⟩
        generalize xs[i] = x at *
        obtain ⟨x0, x1, x2, x3⟩ := x
        simp only [gdE, List.getElem?_cons_zero, List.getElem?_cons_succ] at a3
        simp only at HT HA
        obtain ⟨m, hm9⟩ : ∃ m, x3.size = m := ⟨_, rfl⟩
        have HM := Lib.hid hm9
        rw [hm9] at HT HA
        by_cases ht : 1048576 < m
        · have jt : (1048576 : Int) < (m : Int) := by omega
          have hR3 := HA.out ht
          subst hR3
          have jt2 : (1048576 : Int) < (x3.size : Int) := by rw [hm9]; exact jt
          clear ht hm9
          go_wp2_with fail
          go_ret
          exact ⟨rfl, HB.out⟩
        · have jt2 : ¬ (1048576 : Int) < (x3.size : Int) := by rw [hm9]; omega
          have HT2 := Lib.hid (HT.out (by omega))
          clear ht hm9 HT HA HI
          go_wp2_with fail
          go_round
          case rel => exact ⟨i + 1, by omega, rfl, HT2⟩
          case measure => simp [intOf]; omega
      · obtain rfl : i = n := by omega
        have ji : ¬ (i : Int) < (i : Int) := by omega
        have HR0 : Hid (R = 0) := show _ = _ by
          rw [← HR.out, if_neg]
          intro h
          obtain ⟨x, hx, h9⟩ := List.any_eq_true.1 h
          obtain ⟨j, hj, rfl⟩ := List.getElem_of_mem hx
          have := HI.out j hj (by rw [← HN.out]; exact hj)
          have := of_decide_eq_true h9
          omega
        have hR0 := HR0.out
        subst hR0
        clear HI HR HR0
        go_wp2_with fail
        go_ret
        exact ⟨rfl, HB.out⟩
end Go.Proofs.YtmfkggngjeolcaaGreatDoor
