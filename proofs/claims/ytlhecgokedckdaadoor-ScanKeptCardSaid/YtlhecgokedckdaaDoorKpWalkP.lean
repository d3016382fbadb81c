import Derived.Test.YtlhecgokedckdaaDoorKpSt
import Derived.Test.YtlhecgokedckdaaDoorPkA
import Derived.Test.YtlhecgokedckdaaDoorRefI
import Derived.Test.YtlhecgokedckdaaDoorRefL
import Derived.Test.YtlhecgokedckdaaDoorScNumP
import Derived.Test.YtlhecgokedckdaaDoorScKnown
/- ScanKept, walked. Own work. -/
namespace Go.Proofs.YtlhecgokedckdaaDoor
open Go.RowKit Go.Shelf Sc
theorem mem_set {L : List Nat} {i u : Nat} (h : ∀ z ∈ L, z < 256) (hu : u < 256) : ∀ z ∈ L.set i u, z < 256 := fun z hz => by
  rcases List.mem_or_eq_of_mem_set hz with hz | rfl
  · exact h z hz
  · exact hu
theorem sl_front' {w : World} {ao : Option Addr} {cap k : Nat} {zs : List Nat} (h : Sl w (.slice ao zs.length cap) zs) (hk : k ≤ zs.length) : Sl w (.slice ao k cap) (zs.take k) := by
  by_cases hp : 0 < zs.length
  · obtain ⟨b, o, c, e, _⟩ := id (h.pos hp)
    cases e
    exact h.front k hk
  · obtain rfl : zs = [] := List.eq_nil_of_length_eq_zero (by omega)
    obtain rfl : k = 0 := by simpa using hk
    exact h
set_option maxRecDepth 100000 in
set_option maxHeartbeats 4000000 in
theorem kept_walk {w : World} {tv : Value} {xs : List (Value × List Nat)} (ht : Tabs w) (hr : RTabs w) (hp : Pows w) (h9 : 9 ≤ w.heap.size) (hx : Txs w tv xs) :
    Calls Tryd.prog 3 #[tv] w fun e w' => e = .returned (.bool true) ∧ Below w.heap.size w w' := by
  obtain ⟨ii, hi, hz0, hz1, hz2⟩ := info_parts info_byte
  have HSz : Hid ((Tryd.prog.info? 5).map (·.size) = some 1) := (by rw [hi, Option.map_some, hz1] : _ = _)
  obtain ⟨ao, cap, rfl, hc1, hc2, hx⟩ := hx
  obtain ⟨n, hn⟩ : ∃ n, xs.length = n := ⟨_, rfl⟩
  have HX : Hid (∀ i, i < n → ∃ b o sa sc zs, ao = some ⟨b, o, none⟩ ∧ w.cell? ⟨b, o + i, none⟩ = some (.slice sa zs.length sc) ∧ Sl w (.slice sa zs.length sc) zs ∧ zs.length ≤ sc ∧ sc ≤ maxLen) := fun i hi => by
    obtain ⟨b, o, h1, h2, h3⟩ := hx i (by omega)
    obtain ⟨sa, sc, e, h4, h5, _⟩ := id h3
    rw [e] at h2 h3
    exact ⟨b, o, sa, sc, _, h1, h2, h3, h4, h5⟩
  rw [hn] at hc1 ⊢
  unfold maxLen at hc2
  have HK : Hid (∀ W, Below w.heap.size w W → Calls Tryd.prog 18 #[] W fun e w' => e = .returned (.bool true) ∧ Below W.heap.size W w') := fun W hW => known_any (ht.below hW) (Nat.le_trans h9 hW.size)
  have HTk : Hid (∀ W g zs, Below w.heap.size w W → Sl W (.slice (some ⟨g, 0, none⟩) zs.length 3000) zs → g < W.heap.size → Calls Tryd.prog 4 #[.slice (some ⟨g, 0, none⟩) zs.length 3000] W fun e w' => ∃ la lc, e = .returned (.tuple #[.slice la (Sc.tokens zs).1.length lc, .int .i64 ((Sc.tokens zs).2.1 : Nat), .int .i64 ((Sc.tokens zs).2.2 : Nat)]) ∧ OwnT w' W.heap.size (.slice la (Sc.tokens zs).1.length lc) (Sc.tokens zs).1 ∧ Below W.heap.size W w') := fun W g zs hW hs hg => (tokens_any (ht.below hW) hs (fun k hk => by cases hk; exact hg) (Nat.le_trans h9 hW.size)).mono fun e w' ⟨lv, h1, h2, h3⟩ => by
    obtain ⟨la, lc, rfl⟩ := h2.form
    exact ⟨la, lc, h1, h2, h3⟩
  have HRk : Hid (∀ W v zs, Below w.heap.size w W → Sl w v zs → Calls Tryd.prog 5 #[v] W fun e w' => ∃ lv, e = .returned (.tuple #[lv, .int .i64 ((Sc.tokens zs).2.1 : Nat), .int .i64 ((Sc.tokens zs).2.2 : Nat)]) ∧ OwnT w' W.heap.size lv (Sc.tokens zs).1 ∧ Below W.heap.size W w') := fun W v zs hW hs => rTokens_any (hr.below hW) (hs.below hW)
  have HCn : Hid (∀ zs, (tokens zs).1.length ≤ 1048576) := tokens_count
  have HD1 : Hid (∀ W (m : Nat), m ≤ 3000 → Below w.heap.size w W → Calls Tryd.prog 9 #[.int .u64 ((m * 12345678901 : Nat) : Int)] W fun e w' => ∃ va vc, e = .returned (.slice va (decN (m * 12345678901)).length vc) ∧ Own w' W.heap.size (.slice va (decN (m * 12345678901)).length vc) (decN (m * 12345678901)) ∧ Below W.heap.size W w') := fun W m hm hW => (number_any (n := m * 12345678901) rfl (by unfold top; omega) (hp.below hW)).mono fun e w' ⟨v, h1, h2, h3⟩ => by
    obtain ⟨g, c, rfl, _⟩ := h2.form (decN_pos _)
    exact ⟨_, c, h1, h2, h3⟩
  have HD2 : Hid (∀ W (m : Nat), m ≤ 3000 → Calls Tryd.prog 12 #[.int .u64 ((m * 12345678901 : Nat) : Int)] W fun e w' => ∃ v, e = .returned v ∧ Own w' W.heap.size v (decN (m * 12345678901)) ∧ Below W.heap.size W w') := fun W m hm => rNumber_any rfl (by unfold top; omega) W
  have HQ1 : Hid (∀ W (t : ByteArray), t.size ≤ 3000 → Calls Tryd.prog 8 #[.string t] W fun e w' => ∃ va vc, e = .returned (.slice va (quoteF (sb t)).length vc) ∧ Own w' W.heap.size (.slice va (quoteF (sb t)).length vc) (quoteF (sb t)) ∧ Below W.heap.size W w') := fun W t h => (quote_any t (by omega) W).mono fun e w' ⟨v, h1, h2, h3⟩ => by
    obtain ⟨g, c, rfl, _⟩ := h2.form (by unfold quoteF; simp)
    exact ⟨_, c, h1, h2, h3⟩
  have HQ2 : Hid (∀ W (t : ByteArray), t.size ≤ 3000 → Calls Tryd.prog 11 #[.string t] W fun e w' => ∃ v, e = .returned v ∧ Own w' W.heap.size v (quoteF (sb t)) ∧ Below W.heap.size W w') := fun W t h => rQuote_any t (by omega) W
  have HSm : Hid (∀ W u v xs, Sl W u xs → Sl W v xs → Calls Tryd.prog 10 #[u, v] W fun e w' => e = .returned (.bool true) ∧ Below W.heap.size W w') := fun W u v xs h1 h2 => same_any h1 h2
  clear ht hr hp h9 hx
  go_enter Tryd.func3, Tryd.ntmps3
  go_wp2_with (at_make; refine wpList_make_full _ rfl _ _ 28 rfl (w.heap.size + 2) 5 ii (.int .u8 0) 1 Tryd.underlying28 hi hz0 hz1 _ _ _ _ 3000 rfl rfl (by omega) (by omega) (by rw [hz2]; omega) (by simp only [maxLen]; omega) (by simp) ?_)
  intro w1 hown hgrow
  have HS : Hid (Ks w w.heap.size (w.heap.size + 1) (w.heap.size + 1 + 1) (fun _ => False) w1) := Ks.start (row_made hown) hgrow
  clear hown hgrow hi hz0 hz1 hz2
  go_wp2_with fail
  generalize w.heap.size + 1 + 1 = g at *
  generalize w.heap.size + 1 = k2 at *
  obtain ⟨k1, hk1⟩ : ∃ k1, k1 = w.heap.size := ⟨_, rfl⟩
  go_loopw [6] (fun iv wr => ∃ j : Nat, j ≤ n ∧ j ≤ 20 ∧ iv = .int .i64 (j : Int) ∧ Hid (Ks w w.heap.size k2 g (fun _ => False) wr)) (fun iv _ => 20 - (intOf iv).toNat)
  case atStart => exact ⟨0, by omega, by omega, rfl, HS⟩
  case round =>
    obtain ⟨i, hi1, hi2, rfl, HS0⟩ := hrel
    by_cases hin : i < n ∧ i < 20
    · obtain ⟨hin1, hin2⟩ := hin
      have d1 : decide ((i : Int) < (n : Int)) = true := decide_eq_true (by omega)
      have d2 : decide ((i : Int) < 20) = true := decide_eq_true (by omega)
      have ji : (i : Int) < (n : Int) := by omega
      have hw1 : IntKind.i64.wrap ((i : Int) + 1) = ((i + 1 : Nat) : Int) := by rw [IntKind.wrap_i64]; omega
      obtain ⟨b, o, sa, sc, zs0, rfl, hcell, hsl0, hs1, hs2⟩ := HX.out i hin1
      have hcell' : wr.cell? ⟨b, o + i, none⟩ = some (.slice sa zs0.length sc) := (HS0.out.below.cell (p := ⟨b, o + i, none⟩) (World.block_lt_of_cell? w _ hcell)).trans hcell
      have HL0 : Hid (Sl w (.slice sa zs0.length sc) zs0) := hsl0
      clear hcell hsl0
      unfold maxLen at hs2
      go_upto_if 36 with fail
      go_cut [7] (fun y wx => ∃ zs : List Nat, y = .slice sa zs.length sc ∧ zs.length ≤ 3000 ∧ zs.length ≤ sc ∧ Hid (Sl w (.slice sa zs.length sc) zs) ∧ wx = wr)
      case first =>
        by_cases hpl : zs0.length ≤ 3000
        · have d3 : decide ((zs0.length : Int) > 3000) = false := decide_eq_false (by omega)
          go_wp2_with fail
          go_meet
          exact ⟨zs0, rfl, hpl, hs1, HL0, rfl⟩
        · have d3 : decide ((zs0.length : Int) > 3000) = true := decide_eq_true (by omega)
          go_wp2_with fail
          go_meet
          have e3 : (zs0.take 3000).length = 3000 := by rw [List.length_take]; omega
          refine ⟨zs0.take 3000, by rw [e3], by omega, by omega, ?_, rfl⟩
          show Sl w _ _
          rw [e3]
          exact sl_front' HL0.out (by omega)
      case rest =>
        obtain ⟨zs, rfl, hz1, hz2, HL, hw⟩ := hcut
        subst hw
        clear HL0 hs1 hs2 hcell' zs0
        go_wp2_with fail
        go_loopw [8] (fun kv wr => ∃ j : Nat, j ≤ 2 ∧ kv = .int .i64 (j : Int) ∧ Hid (Ks w w.heap.size k2 g (fun _ => False) wr)) (fun kv _ => 2 - (intOf kv).toNat)
        case atStart => exact ⟨0, by omega, rfl, HS0⟩
        case round =>
          clear HS0
          obtain ⟨k, hk2, rfl, HS0⟩ := hrel
          by_cases hk : k < 2
          · have d4 : decide ((k : Int) < 2) = true := decide_eq_true (by omega)
            have hw2 : IntKind.i64.wrap ((k : Int) + 1) = ((k + 1 : Nat) : Int) := by rw [IntKind.wrap_i64]; omega
            obtain ⟨N, HN⟩ : ∃ N, Hid (N = wr.heap.size) := ⟨_, (rfl : _ = _)⟩
            have HS1 : Hid (Ks w w.heap.size k2 g (fun k => N ≤ k) wr) := HN.out ▸ HS0.out.fresh
            obtain ⟨L, hLl, hLs, hLr⟩ := HS0.out.buf
            have HLr : Hid (Row wr g L) := hLr
            have HLs : Hid (∀ z ∈ L, z < 256) := hLs
            have HLl : Hid (L.length = 3000) := hLl
            have HPos : Hid (0 < (bvs zs).length → (some ⟨g, 0, none⟩ : Option Addr) = some ⟨g, 0, none⟩ ∧ ∃ ad, sa = some ad ∧ ∀ j v, (bvs zs)[j]? = some v → wr.cell? (ad.add j) = some v) := by
              intro hp0
              rw [bvs_length] at hp0
              obtain ⟨b', o', c', e', _, _, _, hcs⟩ := HL.out.pos hp0
              simp only [Value.slice.injEq] at e'
              obtain ⟨rfl, _, _⟩ := e'
              refine ⟨rfl, ⟨b', o', none⟩, rfl, fun j v hj => ?_⟩
              have hjl : j < zs.length := by simpa [bvs_length] using (List.getElem?_eq_some_iff.1 hj).1
              rw [bvs_get zs j hjl] at hj
              have hc := hcs j hjl
              rw [Addr.add_lit, HS0.out.below.cell (p := ⟨b', o' + j, none⟩) (World.block_lt_of_cell? w _ hc), hc, hj]
            have HPl : Hid ((bvs zs).length = zs.length) := bvs_length zs
            clear hLl hLs hLr
            go_wp2_with (refine wpList_copyK rfl (.tmp 43) (.tmp 44) 28 28 rfl 5 Tryd.underlying28 HSz.out _ sa _ _ zs.length sc rfl rfl g 0 (bvs L) 5 HLr.out (bvs zs) (by rw [HPl.out]; exact (Nat.min_eq_left (by omega)).symm) HPos.out (by rw [HPl.out, bvs_length, HLl.out]; omega) (bvs_one zs) ?_)
            intro w2 HG2 HK2
            have HR2 : Hid (Row w2 g (zs ++ L.drop zs.length)) := by
              have h := HG2.out
              rw [splice_bvs] at h
              exact h
            have HS2 : Hid (Ks w w.heap.size k2 g (fun k => N ≤ k) w2) := HS1.out.write HK2.out HR2.out (by rw [List.length_append, List.length_drop, HLl.out]; omega) (fun z hz => by
              rcases List.mem_append.1 hz with hz | hz
              · exact HL.out.small z hz
              · exact HLs.out z (List.mem_of_mem_drop hz))
            have HB2 : Hid (Sl w2 (.slice (some ⟨g, 0, none⟩) zs.length 3000) zs) := by
              have h := HR2.out.sl (fun z hz => by
                rcases List.mem_append.1 hz with hz | hz
                · exact HL.out.small z hz
                · exact HLs.out z (List.mem_of_mem_drop hz)) 0 zs.length 3000 (by rw [List.length_append]; omega) hz1 (by unfold maxLen; omega)
              rw [List.drop_zero, List.take_left] at h
              exact h
            have HZ2 : Hid (N ≤ w2.heap.size) := HN.out ▸ HK2.out.size
            have HT2 := Lib.hid (HTk.out w2 g zs HS2.out.below HB2.out HS2.out.lt)
            clear HN HG2 HK2 HR2 HB2 HPos HPl HLr HLs HLl HS1 HS0
            go_wp2_with fail
            refine HT2.out.mono ?_
            rintro e w3 ⟨la, lc, rfl, ho3, hb3⟩
            have HO3 : Hid (OwnT w3 w2.heap.size (.slice la (tokens zs).1.length lc) (tokens zs).1) := ho3
            have HS3 := Lib.hid (HS2.out.of_below hb3)
            have HGl : Hid (g < w2.heap.size) := HS2.out.lt
            have hcn := HCn.out zs
            clear HT2 ho3 hb3 HS2
            go_wp2_with fail
            generalize (tokens zs).1.length = tn at *
            go_loopw [12] (fun jv wq => ∃ j : Nat, j ≤ 3000 ∧ jv = .int .i64 (j : Int) ∧ Hid (Ks w w.heap.size k2 g (fun k => N ≤ k) wq) ∧ Hid (OwnT wq w2.heap.size (.slice la tn lc) (tokens zs).1)) (fun jv _ => 3000 - (intOf jv).toNat)
            case atStart => exact ⟨0, by omega, rfl, HS3, HO3⟩
            case round =>
              clear HS3 HO3
              obtain ⟨j, hj, rfl, HS3, HO3⟩ := hrel
              by_cases hj3 : j < 3000
              · have d5 : decide ((j : Int) < 3000) = true := decide_eq_true (by omega)
                have jj3 : (j : Int) < 3000 := by omega
                have hw3 : IntKind.i64.wrap ((j : Int) + 1) = ((j + 1 : Nat) : Int) := by rw [IntKind.wrap_i64]; omega
                obtain ⟨L, hLl, hLs, hLr⟩ := HS3.out.buf
                have hcell := hLr.cell j (by omega)
                have hthaw := hLr.thawed j
                have HLr : Hid (Row wr g L) := hLr
                have HLs : Hid (∀ z ∈ L, z < 256) := hLs
                have HLl : Hid (L.length = 3000) := hLl
                clear hLr hLs hLl
                generalize L.getD j 0 = z at hcell
                go_wp2_with fail
                go_roundw
                case rel =>
                  have k := Keeps.setCell wr g j (.int .u8 55)
                  refine ⟨j + 1, by omega, rfl, ?_, ?_⟩
                  · exact HS3.out.write k (HLr.out.set j 55) (by rw [List.length_set]; exact HLl.out) (mem_set HLs.out (by decide))
                  · exact HO3.out.keeps k (fun q hq e => by
                      subst e
                      have := (HO3.out.lt _ hq).1
                      have := HGl.out
                      omega)
                case measure => simp [intOf]; omega
              · have d5 : decide ((j : Int) < 3000) = false := decide_eq_false (by omega)
                have HR3 := Lib.hid (HRk.out wr _ zs HS3.out.below HL.out)
                clear hj hj3
                go_wp2_with fail
                refine HR3.out.mono ?_
                rintro e w4 ⟨mv, rfl, ho4, hb4⟩
                have HS4 := Lib.hid (HS3.out.of_below hb4)
                have HO4 : Hid (OwnT w4 w2.heap.size (.slice la tn lc) (tokens zs).1) := HO3.out.below hb4
                have HM4 := Lib.hid (sameT_any HO4.out ho4 (HCn.out zs))
                clear HR3 HS3 HO3 ho4 hb4
                have HTc : Hid ((tokens zs).1.length ≤ 1048576) := HCn.out zs
                generalize (tokens zs).2.1 = tA at *
                generalize (tokens zs).2.2 = tE at *
                generalize (tokens zs).1 = ts at *
                go_wp2_with fail
                refine HM4.out.mono ?_
                rintro e w5 ⟨rfl, hb5⟩
                have HS5 := Lib.hid (HS4.out.of_below hb5)
                have HO5 := Lib.hid (HO4.out.below hb5)
                have HK5 := Lib.hid (HS5.out.keepT HO5.out (Nat.le_trans HS5.out.g3 (Nat.le_of_lt HGl.out)) HTc.out (fun k hk => Nat.le_trans HZ2.out (HO5.out.lt k hk).1))
                clear HM4 HS4 HO4 hb5
                go_wp2_with fail
                refine HK5.out.mono ?_
                rintro e w6 ⟨rfl, hs6⟩
                have HS6 := Lib.hid hs6.fresh
                have hcv := conv_str (HL.out.below hs6.below)
                have hsz : (mkS zs).size ≤ 3000 := by rw [mkS_size]; exact hz1
                have HQ6 := Lib.hid (HQ1.out w6 (mkS zs) hsz)
                clear HK5 HS5 HO5 hs6
                go_wp2_with fail
                refine HQ6.out.mono ?_
                rintro e w7 ⟨qa, qc, rfl, ho7, hb7⟩
                have HS7 := Lib.hid (HS6.out.of_below hb7)
                have HO7 : Hid (Own w7 w6.heap.size (.slice qa (quoteF (sb (mkS zs))).length qc) (quoteF (sb (mkS zs)))) := ho7
                have HU7 : Hid (∀ k, (Value.slice qa (quoteF (sb (mkS zs))).length qc).ownBlock = some k → k < w7.heap.size) := fun k hk => (ho7.lt k hk).2
                have HZ7 : Hid (w6.heap.size ≤ w7.heap.size) := hb7.size
                have HG7 : Hid (g < w6.heap.size) := HS6.out.lt
                have HN7 := Lib.hid (HD1.out w7 zs.length hz1 HS7.out.below)
                have hwm : IntKind.u64.wrap ((zs.length : Int) * 12345678901) = ((zs.length * 12345678901 : Nat) : Int) := by rw [IntKind.wrap_u64]; omega
                have hwl : IntKind.u64.wrap (zs.length : Int) = (zs.length : Int) := by rw [IntKind.wrap_u64]; omega
                have HQs : Hid ((∀ z ∈ quoteF (sb (mkS zs)), z < 256) ∧ ∀ ys, ys = quoteF (sb (mkS zs)) → ys.length ≤ 1000000) := ⟨Sc.quoteF_small (sb_small _), by
                  rintro _ rfl
                  have := Sc.spells_len (sb (mkS zs))
                  rw [sb_length] at this
                  unfold quoteF
                  simp only [List.length_append, List.length_cons, List.length_nil]
                  omega⟩
                have HQ8 := Lib.hid (fun W => HQ2.out W (mkS zs) hsz)
                have HDs : Hid ((∀ z ∈ decN (zs.length * 12345678901), z < 256) ∧ ∀ ys, ys = decN (zs.length * 12345678901) → ys.length ≤ 20) := ⟨fun z hz => by have := decN_small _ z hz; omega, by rintro _ rfl; exact decN_top (by unfold top; omega)⟩
                have HN8 := Lib.hid (fun W => HD2.out W zs.length hz1)
                clear HQ6 HS6 ho7 hb7 hcv
                generalize quoteF (sb (mkS zs)) = qs at *
                generalize decN (zs.length * 12345678901) = ds at *
                generalize zs.length * 12345678901 = nn at *
                go_wp2_with fail
                refine HN7.out.mono ?_
                rintro e w8 ⟨na, nc, rfl, ho8, hb8⟩
                have HS8 := Lib.hid (HS7.out.of_below hb8)
                have HO8 := Lib.hid (HO7.out.below hb8)
                have HN8o : Hid (Own w8 w7.heap.size (.slice na ds.length nc) ds) := ho8
                clear HN7 HS7 HO7 ho8 hb8
                generalize qs.length = qn at *
                generalize ds.length = dn at *
                have HR8 := Lib.hid (HQ8.out w8)
                go_wp2_with fail
                refine HR8.out.mono ?_
                rintro e w9 ⟨rv, rfl, ho9, hb9⟩
                have HS9 := Lib.hid (HS8.out.of_below hb9)
                have HO9 := Lib.hid (HO8.out.below hb9)
                have HN9 := Lib.hid (HN8o.out.below hb9)
                have HM9 := Lib.hid (HSm.out w9 _ rv qs (HO9.out.sl HQs.out.1) (ho9.sl HQs.out.1))
                clear HR8 HQ8 HS8 HO8 HN8o ho9 hb9
                go_wp2_with fail
                refine HM9.out.mono ?_
                rintro e w10 ⟨rfl, hb10⟩
                have HSa := Lib.hid (HS9.out.of_below hb10)
                have HOa := Lib.hid (HO9.out.below hb10)
                have HNa := Lib.hid (HN9.out.below hb10)
                have HRa := Lib.hid (HN8.out w10)
                clear HM9 HS9 HO9 HN9 hb10
                go_wp2_with fail
                refine HRa.out.mono ?_
                rintro e w11 ⟨rv2, rfl, ho11, hb11⟩
                have HSb := Lib.hid (HSa.out.of_below hb11)
                have HOb := Lib.hid (HOa.out.below hb11)
                have HNb := Lib.hid (HNa.out.below hb11)
                have HMb := Lib.hid (HSm.out w11 _ rv2 ds (HNb.out.sl HDs.out.1) (ho11.sl HDs.out.1))
                clear HRa HSa HOa HNa ho11 hb11
                go_wp2_with fail
                refine HMb.out.mono ?_
                rintro e w12 ⟨rfl, hb12⟩
                have HSc := Lib.hid (HSb.out.of_below hb12)
                have HOc := Lib.hid (HOb.out.below hb12)
                have HNc := Lib.hid (HNb.out.below hb12)
                have HKc := Lib.hid (HSc.out.keepB HOc.out (Nat.le_trans HSc.out.g3 (Nat.le_of_lt HG7.out)) HG7.out (by have := HQs.out.2 _ rfl; omega) HQs.out.1 (fun k hk => (HOc.out.lt k hk).1))
                clear HMb HSb HOb HNb hb12
                go_wp2_with fail
                refine HKc.out.mono ?_
                rintro e w13 ⟨rfl, hs13, hown⟩
                have HSd := Lib.hid hs13
                have HNd := Lib.hid (hown _ _ _ HNc.out)
                have HKd := Lib.hid (HSd.out.keepB HNd.out (Nat.le_trans HSc.out.g3 (Nat.le_trans (Nat.le_of_lt HG7.out) HZ7.out)) (Nat.lt_of_lt_of_le HG7.out HZ7.out) (by have := HDs.out.2 _ rfl; omega) HDs.out.1 (fun k hk => by
                  have a1 := HNc.out.lt k hk
                  exact ⟨Nat.le_trans HZ7.out a1.1, fun e => absurd (HU7.out k e) (by omega), a1.2⟩))
                clear HKc hs13 hown
                go_wp2_with fail
                refine HKd.out.mono ?_
                rintro e w14 ⟨rfl, hs14, _⟩
                have HSe := Lib.hid (hs14.sub (F' := fun _ => False) (fun _ h => h.elim))
                clear HKd hs14
                go_wp2_with fail
                go_roundw
                case rel => exact ⟨k + 1, by omega, rfl, HSe⟩
                case measure => simp [intOf]; omega
          · have d4 : decide ((k : Int) < 2) = false := decide_eq_false (by omega)
            go_wp2_with fail
            go_roundw
            case rel => exact ⟨i + 1, by omega, by omega, rfl, HS0⟩
            case measure => simp [intOf]; omega
    · have HKn : Hid (∀ W, Below w.heap.size w W → ∀ (h : ∃ lv wv held E, Bk W w.heap.size k2 lv wv held E ∧ E.length ≤ 4000), Calls Tryd.prog 16 #[.pointer (some ⟨k2, 0, none⟩), .func (.func 17) #[] #[]] W fun e w' => e = .returned (.bool true) ∧ Below w.heap.size w w') := fun W hW h => apartB_end hW HS0.out.g2 h
      have HA := Lib.hid HS0.out.apartT
      by_cases hin1 : i < n
      · have d1 : decide ((i : Int) < (n : Int)) = true := decide_eq_true (by omega)
        have d2 : decide ((i : Int) < 20) = false := decide_eq_false (by omega)
        clear hin
        go_wp2_with fail
        refine HA.out.mono ?_
        rintro e w2 ⟨rfl, hb2, hB2⟩
        have HKn2 := Lib.hid (HKn.out w2 hb2 hB2)
        clear HA hb2 hB2
        go_wp2_with fail
        refine HKn2.out.mono ?_
        rintro e w3 ⟨rfl, hb3⟩
        have HB3 : Hid (Below w.heap.size w w3) := hb3
        have HK3 := Lib.hid (HK.out w3 hb3)
        clear HKn2 hb3
        go_wp2_with fail
        refine HK3.out.mono ?_
        rintro e w4 ⟨rfl, hb4⟩
        go_wp2_with fail
        go_ret
        exact ⟨rfl, HB3.out.trans (hb4.mono HB3.out.size)⟩
      · have d1 : decide ((i : Int) < (n : Int)) = false := decide_eq_false (by omega)
        clear hin
        go_wp2_with fail
        refine HA.out.mono ?_
        rintro e w2 ⟨rfl, hb2, hB2⟩
        have HKn2 := Lib.hid (HKn.out w2 hb2 hB2)
        clear HA hb2 hB2
        go_wp2_with fail
        refine HKn2.out.mono ?_
        rintro e w3 ⟨rfl, hb3⟩
        have HB3 : Hid (Below w.heap.size w w3) := hb3
        have HK3 := Lib.hid (HK.out w3 hb3)
        clear HKn2 hb3
        go_wp2_with fail
        refine HK3.out.mono ?_
        rintro e w4 ⟨rfl, hb4⟩
        go_wp2_with fail
        go_ret
        exact ⟨rfl, HB3.out.trans (hb4.mono HB3.out.size)⟩
end Go.Proofs.YtlhecgokedckdaaDoor
