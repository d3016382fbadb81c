/- told: a set is just these points. Own work. -/
import Derived.Test.YtogcpogoamoljaaSpToldM
import Derived.Test.YtogcpogoamoljaaSpTake
namespace Go.Proofs.Ytogcpogoamoljaa
open Go.RowKit Go.Shelf Go.Proofs.Ytogcpogoamoljaa.Sp Go.Proofs.Ytogcpogoamoljaa.U8
theorem load_exec {o : Oper} {a : Act} {w : World} {x : Operand} (ho : o.op = .load 33 x) {b : Nat} {f : Nat → Bool} (hx : a.eval x = .pointer (some ⟨b, 0, none⟩)) (h : PtsAt w b f) : (execOp a.eval o).run Try.prog w = .ok (.value (.agg (ptsV f))) w := by
  unfold execOp
  simp only [ho, hx, Sem.run_bind, Sem.run_pure, Result.andThen_ok, h.load]
set_option maxHeartbeats 1000000 in
set_option maxRecDepth 2000 in
theorem told_any {f : Nat → Bool} {xs : List Sp} {v : Value} {w : World} (hv : SV w v xs) (hc : Canon 255 xs) (hx : ∀ q : Nat, q < 256 → (f q = true ↔ In q xs)) :
    Calls Try.prog 8 #[.agg #[v], .agg (ptsV f)] w fun e w' => e = .returned (.bool true) ∧ Below w.heap.size w w' := by
  have HV : Hid (SV w v xs) := hv
  have HC : Hid (Canon 255 xs) := hc
  have HX : Hid (∀ q : Nat, q < 256 → (f q = true ↔ In q xs)) := hx
  have hl := canon_length hc (by omega)
  have HLen : Hid (xs.length ≤ 256) := show xs.length ≤ 256 by omega
  obtain ⟨ao, cap, rfl, _⟩ := hv
  obtain ⟨N, hN⟩ : ∃ N, xs.length = N := ⟨_, rfl⟩
  rw [hN] at HV ⊢
  clear hc hx hN hl
  go_enter Try.func8, Try.ntmps8
  go_wp2_with fail
  obtain ⟨W0, hW0⟩ : ∃ W0, (w.alloc (Obj.cells #[.slice ao N cap] 25)).alloc (Obj.cells (ptsV f) 33) = W0 := ⟨_, rfl⟩
  have HS0 : Hid (W0.heap[w.heap.size]? = some (.cells #[.slice ao N cap] 25 (0, 0))) := hW0 ▸ (Below.heap_alloc _ _ _ (by simp)).trans (heap_alloc_new w _)
  have HP0 : Hid (PtsAt W0 (w.heap.size + 1) f) := show PtsAt W0 (w.heap.size + 1) f by
    have := PtsAt.new (w.alloc (Obj.cells #[.slice ao N cap] 25)) f
    rw [hW0] at this
    simpa using this
  have HB0 : Hid (Below w.heap.size w W0) := hW0 ▸ ((Below.refl _ _).alloc (Nat.le_refl _) _).alloc (by simp) _
  have HV0 : Hid (SV W0 (.slice ao N cap) xs) := HV.out.below HB0.out (Nat.le_refl _)
  have HZ0 : Hid (w.heap.size + 2 ≤ W0.heap.size) := HP0.out.lt
  rw [hW0]
  clear hW0
  go_loopw [5, 6, 7] (fun n nx i wr => ∃ k : Nat, k ≤ 256 ∧ i = .int .i64 (255 - (k : Int)) ∧ n = .int .u64 ((cnD f k : Nat) : Int) ∧ nx = .int .i64 (nxD f k) ∧ Hid (Below W0.heap.size W0 wr)) (fun _ _ i _ => (intOf i + 1).toNat)
  case atStart => exact ⟨0, by omega, rfl, rfl, rfl, Below.refl _ _⟩
  case round =>
    obtain ⟨k, hk, rfl, rfl, rfl, HBr⟩ := hrel
    by_cases hlt : k < 256
    · obtain ⟨pn, hpn⟩ : ∃ pn : Nat, pn = 255 - k := ⟨_, rfl⟩
      have HPN : Hid (pn = 255 - k) := hpn
      rw [show (255 : Int) - (k : Int) = (pn : Int) by omega]
      have p255 : pn ≤ 255 := by omega
      have p256 : (pn : Int) < 256 := by omega
      have d0 : decide ((0 : Int) ≤ (pn : Int)) = true := decide_eq_true (by omega)
      have w8 : IntKind.u8.wrap (pn : Int) = (pn : Int) := show (pn : Int) % 256 = pn by omega
      have hcn := cnD_le f k
      obtain ⟨c, hcc⟩ : ∃ c, cnD f k = c := ⟨_, rfl⟩
      rw [hcc] at hcn ⊢
      have wc : IntKind.u64.wrap ((c : Int) + 1) = (c : Int) + 1 := show ((c : Int) + 1) % 18446744073709551616 = (c : Int) + 1 by omega
      have hbs : wr.cell? ⟨w.heap.size, 0, none⟩ = some (.slice ao N cap) := by
        rw [cell_of_row _ _ 0 _ _ _ ((HBr.out.block _ (by have := HZ0.out; omega)).trans HS0.out)]; rfl
      have HPr : Hid (PtsAt wr (w.heap.size + 1) f) := HP0.out.below HBr.out (by have := HZ0.out; omega)
      have hbp := HPr.out.cell (p := pn) (by omega)
      have hne := nextB_nx HC.out HX.out hlt
      rw [← hpn] at hne
      have HHas : Hid (Calls Try.prog 21 #[.agg #[.slice ao N cap], .int .u8 (pn : Int)] wr.drew fun e w2 => e = .returned (.bool (f pn)) ∧ w2.cell? ⟨w.heap.size, 0, none⟩ = some (.slice ao N cap) ∧ w2.cell? ⟨w.heap.size + 1, pn, none⟩ = some (.bool (f pn)) ∧ Hid (Below W0.heap.size W0 w2)) := (has_any (HV0.out.below HBr.out.drew (Nat.le_refl _)) HC.out (Nat.le_trans HLen.out (by omega))).mono fun e w2 h => by
        have hb2 : Below W0.heap.size W0 w2 := HBr.out.drew.trans (h.2.mono HBr.out.size)
        refine ⟨by rw [h.1, has_f HC.out HX.out (by omega)], ?_, (HP0.out.below hb2 (by have := HZ0.out; omega)).cell (by omega), hb2⟩
        rw [cell_of_row _ _ 0 _ _ _ ((hb2.block _ (by have := HZ0.out; omega)).trans HS0.out)]; rfl
      have hcD : cnD f (k + 1) = c + if f pn = true then 1 else 0 := by simp only [cnD]; rw [hcc, hpn]
      have hnD : nxD f (k + 1) = if f pn = true then (pn : Int) else nxD f k := by simp only [nxD]; rw [← hpn]
      clear hcc hpn
      cases hfp : f pn with
      | true =>
        rw [hfp, if_pos rfl] at hcD hnD
        rw [hfp] at hbp HHas
        have HCn : Hid (((cnD f (k + 1) : Nat) : Int) = (c : Int) + 1) := show _ = _ by rw [hcD]; push_cast; rfl
        have HNn : Hid (nxD f (k + 1) = (pn : Int)) := hnD
        rw [hnD, if_pos (by omega)] at hne
        have HE : Hid (nextB (pn : Int) xs = ((pn : Int), true)) := hne
        clear hne hcD hnD hfp
        go_wp2_with fail
        go_region_held3 (fun w' => w'.cell? ⟨w.heap.size, 0, none⟩ = some (.slice ao N cap) ∧ w'.cell? ⟨w.heap.size + 1, pn, none⟩ = some (.bool true)) (go_keep) (first | (go_at_call 21; refine HHas.out.mono ?_; rintro e w2 ⟨rfl, g1, g2, HB2⟩))
        have HNx : Hid (Calls Try.prog 22 #[.agg #[.slice ao N cap], .int .u8 (pn : Int)] w2 fun e w3 => e = .returned (.tuple #[.int .u8 (pn : Int), .bool true]) ∧ Hid (Below W0.heap.size W0 w3)) := (next_any (HV0.out.below HB2.out (Nat.le_refl _)) HC.out (Nat.le_trans HLen.out (by omega))).mono fun e w3 h => ⟨by rw [h.1, HE.out], HB2.out.trans (h.2.mono HB2.out.size)⟩
        go_wp2_with fail
        refine HNx.out.mono ?_
        rintro e w3 ⟨rfl, HB3⟩
        clear HNx HHas
        go_wp2_with fail
        go_roundw
        case rel => exact ⟨k + 1, by omega, by rw [show (255 : Int) - ((k + 1 : Nat) : Int) = (pn : Int) - 1 by have := HPN.out; omega], by rw [HCn.out], by rw [HNn.out], HB3.out⟩
        case measure => simp [intOf]
      | false =>
        rw [hfp, if_neg (by simp)] at hcD hnD
        rw [hfp] at hbp HHas
        have HCn : Hid (((cnD f (k + 1) : Nat) : Int) = (c : Int)) := show _ = _ by rw [hcD, Nat.add_zero]
        have hs := nxD_spec f k (by omega)
        obtain ⟨nx, hnx⟩ : ∃ nx, nxD f k = nx := ⟨_, rfl⟩
        have HNn : Hid (nxD f (k + 1) = nx) := hnD.trans hnx
        rw [hnD] at hne
        rw [hnx] at hs hne ⊢
        by_cases h0 : 0 ≤ nx
        · rw [if_pos h0] at hne
          have HE : Hid (nextB (pn : Int) xs = (nx, true)) := hne
          have hb : nx ≤ 255 := by
            rcases hs with ⟨h, _⟩ | ⟨q, h, _, h2, _⟩
            · omega
            · omega
          have d1 : decide (0 ≤ nx) = true := decide_eq_true h0
          clear hne hcD hnD hfp hs hnx
          go_wp2_with fail
          go_region_held3 (fun w' => w'.cell? ⟨w.heap.size, 0, none⟩ = some (.slice ao N cap) ∧ w'.cell? ⟨w.heap.size + 1, pn, none⟩ = some (.bool false)) (go_keep) (first | (go_at_call 21; refine HHas.out.mono ?_; rintro e w2 ⟨rfl, g1, g2, HB2⟩))
          have HNx : Hid (Calls Try.prog 22 #[.agg #[.slice ao N cap], .int .u8 (pn : Int)] w2 fun e w3 => e = .returned (.tuple #[.int .u8 nx, .bool true]) ∧ Hid (Below W0.heap.size W0 w3)) := (next_any (HV0.out.below HB2.out (Nat.le_refl _)) HC.out (Nat.le_trans HLen.out (by omega))).mono fun e w3 h => ⟨by rw [h.1, HE.out], HB2.out.trans (h.2.mono HB2.out.size)⟩
          go_wp2_with fail
          refine HNx.out.mono ?_
          rintro e w3 ⟨rfl, HB3⟩
          clear HNx HHas
          go_wp2_with fail
          go_roundw
          case rel => exact ⟨k + 1, by omega, by rw [show (255 : Int) - ((k + 1 : Nat) : Int) = (pn : Int) - 1 by have := HPN.out; omega], by rw [HCn.out], by rw [HNn.out], HB3.out⟩
          case measure => simp [intOf]
        · rw [if_neg h0] at hne
          have HE : Hid (nextB (pn : Int) xs = ((0 : Int), false)) := hne
          have d1 : decide (0 ≤ nx) = false := decide_eq_false h0
          clear hne hcD hnD hfp hs hnx
          go_wp2_with fail
          go_region_held3 (fun w' => w'.cell? ⟨w.heap.size, 0, none⟩ = some (.slice ao N cap) ∧ w'.cell? ⟨w.heap.size + 1, pn, none⟩ = some (.bool false)) (go_keep) (first | (go_at_call 21; refine HHas.out.mono ?_; rintro e w2 ⟨rfl, g1, g2, HB2⟩))
          have HNx : Hid (Calls Try.prog 22 #[.agg #[.slice ao N cap], .int .u8 (pn : Int)] w2 fun e w3 => e = .returned (.tuple #[.int .u8 (0 : Int), .bool false]) ∧ Hid (Below W0.heap.size W0 w3)) := (next_any (HV0.out.below HB2.out (Nat.le_refl _)) HC.out (Nat.le_trans HLen.out (by omega))).mono fun e w3 h => ⟨by rw [h.1, HE.out], HB2.out.trans (h.2.mono HB2.out.size)⟩
          go_wp2_with fail
          refine HNx.out.mono ?_
          rintro e w3 ⟨rfl, HB3⟩
          clear HNx HHas
          go_wp2_with fail
          go_roundw
          case rel => exact ⟨k + 1, by omega, by rw [show (255 : Int) - ((k + 1 : Nat) : Int) = (pn : Int) - 1 by have := HPN.out; omega], by rw [HCn.out], by rw [HNn.out], HB3.out⟩
          case measure => simp [intOf]
    · obtain rfl : k = 256 := by omega
      have HSz : Hid (∀ W', Below W0.heap.size W0 W' → Calls Try.prog 23 #[.agg #[.slice ao N cap]] W' fun e w2 => e = .returned (.tuple #[.int .u64 ((cnD f 256 : Nat) : Int), .bool true]) ∧ Below W'.heap.size W' w2) := fun W' h => (size_any (HV0.out.below h (Nat.le_refl _)) HC.out).mono fun e w2 k => ⟨by rw [k.1, size_f HC.out HX.out], k.2⟩
      have hcn := cnD_le f 256
      obtain ⟨c, hcc⟩ : ∃ c, cnD f 256 = c := ⟨_, rfl⟩
      obtain ⟨nx, hnx⟩ : ∃ nx, nxD f 256 = nx := ⟨_, rfl⟩
      rw [hcc] at hcn HSz ⊢
      rw [hnx]
      clear hcc hnx
      have hbs : wr.cell? ⟨w.heap.size, 0, none⟩ = some (.slice ao N cap) := by
        rw [cell_of_row _ _ 0 _ _ _ ((HBr.out.block _ (by have := HZ0.out; omega)).trans HS0.out)]; rfl
      go_wp2_with fail
      refine (HSz.out _ HBr.out).mono ?_
      rintro e w2 ⟨rfl, hb2⟩
      have HB2 : Hid (Below W0.heap.size W0 w2) := HBr.out.trans (hb2.mono HBr.out.size)
      clear hb2 hbs
      go_wp2_with fail
      have HE19 : Hid (Enters Try.prog 19) := enters_of Try.func19 (by kernel_rfl) rfl
      have HE24 : Hid (Enters Try.prog 24) := enters_of Try.func24 (by kernel_rfl) rfl
      have HSB : Hid (∀ W', Below W0.heap.size W0 W' → W'.cell? ⟨w.heap.size, 0, none⟩ = some (.slice ao N cap) ∧ PtsAt W' (w.heap.size + 1) f) := fun W' h => ⟨by rw [cell_of_row _ _ 0 _ _ _ ((h.block _ (by have := HZ0.out; omega)).trans HS0.out)]; rfl, HP0.out.below h (by have := HZ0.out; omega)⟩
      have HSp : Hid (∀ W', Below W0.heap.size W0 W' → Calls Try.prog 19 #[.agg #[.slice ao N cap]] W' fun e w3 => ∃ u, e = .returned u ∧ SV w3 u xs ∧ Below W0.heap.size W0 w3) := fun W' h => (spans_any (HV0.out.below h (Nat.le_refl _)) (Nat.le_trans HLen.out (by omega))).mono fun e w3 ⟨v', h1, h2, h3⟩ => ⟨v', h1, h2.sv, h.trans (h3.mono h.size)⟩
      have HFw : Hid (∀ W' u, Below W0.heap.size W0 W' → SV W' u xs → Calls Try.prog 24 #[u, .agg (ptsV f)] W' fun e w3 => ∃ u', e = .returned u' ∧ u' = .bool true ∧ Below W0.heap.size W0 w3) := fun W' u h hu => (fewest_any hu HC.out HX.out).mono fun e w3 h1 => ⟨_, h1.1, rfl, h.trans (h1.2.mono h.size)⟩
      refine wp_region_held_drew (S := fun w' => w'.cell? ⟨w.heap.size, 0, none⟩ = some (.slice ao N cap) ∧ PtsAt w' (w.heap.size + 1) f) (by kernel_rfl) (HSB.out _ HB2.out.drew) (fun hHeld => ?_)
      simp only [List.size_toArray, List.length_cons, List.length_nil]
      refine takeH (i := 0) (d := 63) (v := .bool true) rfl rfl (by kernel_rfl) (by kernel_rfl) (by kernel_rfl) (fun _ _ _ h => h) (Or.inl ⟨by kernel_rfl, by intro w hSw; (try dsimp only at hSw); obtain ⟨hSa, hSb⟩ := hSw; go_simp⟩) (by assumption) ?_
      refine takeH (i := 1) (d := 64) (v := .bool true) rfl rfl (by kernel_rfl) (by kernel_rfl) (by kernel_rfl) (fun _ _ _ h => h) (Or.inl ⟨by kernel_rfl, by intro w hSw; (try dsimp only at hSw); obtain ⟨hSa, hSb⟩ := hSw; go_simp⟩) (by assumption) ?_
      refine takeH (i := 2) (d := 65) (v := .int .u64 (c : Int)) rfl rfl (by kernel_rfl) (by kernel_rfl) (by kernel_rfl) (fun _ _ _ h => h) (Or.inl ⟨by kernel_rfl, by intro w hSw; (try dsimp only at hSw); obtain ⟨hSa, hSb⟩ := hSw; go_simp⟩) (by assumption) ?_
      refine takeH (i := 3) (d := 66) (v := .int .u64 (c : Int)) rfl rfl (by kernel_rfl) (by kernel_rfl) (by kernel_rfl) (fun _ _ _ h => h) (Or.inl ⟨by kernel_rfl, by intro w hSw; (try dsimp only at hSw); obtain ⟨hSa, hSb⟩ := hSw; go_simp⟩) (by assumption) ?_
      refine takeH (i := 4) (d := 67) (v := .bool true) rfl rfl (by kernel_rfl) (by kernel_rfl) (by kernel_rfl) (fun _ _ _ h => h) (Or.inl ⟨by kernel_rfl, by intro w hSw; (try dsimp only at hSw); obtain ⟨hSa, hSb⟩ := hSw; go_simp⟩) (by assumption) ?_
      refine takeH (i := 5) (d := 68) (v := .bool true) rfl rfl (by kernel_rfl) (by kernel_rfl) (by kernel_rfl) (fun _ _ _ h => h) (Or.inl ⟨by kernel_rfl, by intro w hSw; (try dsimp only at hSw); obtain ⟨hSa, hSb⟩ := hSw; go_simp⟩) (by assumption) ?_
      refine takeH (i := 6) (d := 69) (v := .bool true) rfl rfl (by kernel_rfl) (by kernel_rfl) (by kernel_rfl) (fun _ _ _ h => h) (Or.inl ⟨by kernel_rfl, by intro w hSw; (try dsimp only at hSw); obtain ⟨hSa, hSb⟩ := hSw; go_simp⟩) (by assumption) ?_
      refine takeH (i := 7) (d := 70) (v := .agg #[.slice ao N cap]) rfl rfl (by kernel_rfl) (by kernel_rfl) (by kernel_rfl) (fun _ _ _ h => h) (Or.inl ⟨by kernel_rfl, by intro w hSw; (try dsimp only at hSw); obtain ⟨hSa, hSb⟩ := hSw; go_simp⟩) (by assumption) ?_
      refine takeH (i := 9) (d := 72) (v := .agg (ptsV f)) rfl rfl (by kernel_rfl) (by kernel_rfl) (by kernel_rfl) (fun _ _ _ h => h) (Or.inl ⟨by kernel_rfl, fun w' hSw => load_exec (x := .tmp 3) rfl (by simp [Act.eval, Act.put]) hSw.2⟩) (by assumption) ?_
      have HB3 : Hid (Below W0.heap.size W0 w2.drew) := HB2.out.drew
      refine wpAnyH_ready (rs := [8]) (by kernel_rfl) (by simp) ?_
      refine readyCall (i := 8) (d := 71) rfl rfl (by kernel_rfl) 19 #[.tmp 70] #[25] rfl HE19.out #[.agg #[.slice ao N cap]] (by simp [Act.eval, Act.put]) (HSp.out _ HB3.out) (fun u w' h => HSB.out _ h.2) ?_ AllReadyH.nil
      rintro u w4 ⟨hu4, hb4⟩ hHeld4
      refine wpAnyH_ready (rs := [10]) (by kernel_rfl) (by simp) ?_
      refine readyCall (i := 10) (d := 73) rfl rfl (by kernel_rfl) 24 #[.tmp 71, .tmp 72] #[23, 33] rfl HE24.out #[u, .agg (ptsV f)] (by simp [Act.eval, Act.put]) (HFw.out _ u hb4 hu4) (fun u w' h => HSB.out _ h.2) ?_ AllReadyH.nil
      rintro u5 w5 ⟨rfl, hb5⟩ hHeld5
      refine takeH (i := 11) (d := 74) (v := .bool true) rfl rfl (by kernel_rfl) (by kernel_rfl) (by kernel_rfl) (fun _ _ _ h => h) (Or.inl ⟨by kernel_rfl, by intro w hSw; (try dsimp only at hSw); obtain ⟨hSa, hSb⟩ := hSw; go_simp⟩) (by assumption) ?_
      refine takeH (i := 12) (d := 4) (v := .bool true) rfl rfl (by kernel_rfl) (by kernel_rfl) (by kernel_rfl) (fun _ _ _ h => h) (Or.inl ⟨by kernel_rfl, by intro w hSw; (try dsimp only at hSw); obtain ⟨hSa, hSb⟩ := hSw; go_simp⟩) (by assumption) ?_
      have HBf : Hid (Below w.heap.size w w5) := HB0.out.trans (hb5.mono HB0.out.size)
      refine wpAnyH_done (by kernel_rfl) ?_ _
      simp only [Act.put, List.setIfInBounds_toArray, List.set_cons_succ, List.set_cons_zero]
      go_wp2_with fail
      go_ret
      exact ⟨rfl, HBf.out⟩
end Go.Proofs.Ytogcpogoamoljaa
