import Derived.Test.YtmfkggngjeolcaaGreatDoorPk10
/- Bundle: tables (written by parts/gen_bntbs.py). Own work. -/
namespace Go.Proofs.YtmfkggngjeolcaaGreatDoor
open Go.RowKit Bn
set_option linter.unusedVariables false
set_option linter.unusedSimpArgs false
/-- a row of tables -/
def TbG (w : World) (v : Value) (fs : List (Nat → Nat)) : Prop :=
  ∃ ao cap, v = .slice ao fs.length cap ∧ fs.length ≤ cap ∧ cap ≤ maxLen ∧ ∀ i (h : i < fs.length), ∃ b o, ao = some ⟨b, o, none⟩ ∧ ∀ p, p < 512 → w.cell? ⟨b, o + i * 512 + p, none⟩ = some (.int .u64 (fs[i] p : Int))
theorem TbG.below {w w' : World} {v : Value} {fs : List (Nat → Nat)} (h : TbG w v fs) (hb : Below w.heap.size w w') : TbG w' v fs := by
  obtain ⟨ao, cap, rfl, h1, h2, h3⟩ := h
  refine ⟨ao, cap, rfl, h1, h2, fun j hj => ?_⟩
  obtain ⟨b, o, rfl, hc⟩ := h3 j hj
  exact ⟨b, o, rfl, fun p hp => cell_low hb (hc p hp)⟩
def tbOk (f : Nat → Nat) : Prop := ∀ i, i < 512 → f i ≤ 18446744073709551615
theorem tb_eq (f : Nat → Nat) : ∀ k, tb f k = tbN f k
  | 0 => rfl
  | k + 1 => by rw [tb, tb_eq f k]; rfl
theorem tab_len (f : Nat → Nat) (s : S) : (tabS f s).1.length = s.1.length + 4096 := by rw [tabS, bytes_len, tb_eq, tbN_len]
theorem cells_tab {w : World} {b o : Nat} {f : Nat → Nat} (h : ∀ p, p < 512 → w.cell? ⟨b, o + p, none⟩ = some (.int .u64 (f p : Int))) : (Instr.loadAt 80 (.pointer (some ⟨b, o, none⟩))).run Tryz.prog w = .ok (.agg (tabV f)) w := by
  have hu : Tryz.prog.underlying 80 = some (.array 512 22) := by kernel_rfl
  have := run_loadAt_mid (P := Tryz.prog) w b o 80 (tabV f).toList (.array 512 22) (fun j v hv => by
    have hj : j < 512 := by have := (List.getElem?_eq_some_iff.1 hv).1; rw [Array.length_toList, tabV_size] at this; exact this
    rw [h j hj]
    rw [Array.getElem?_toList, tabV_get _ hj] at hv
    exact hv) hu rfl (by rw [Array.length_toList, tabV_size]; exact tab_zero.2)
  simpa using this
theorem load_run {oo : Oper} {a : Act} {w : World} (x : Operand) (ho : oo.op = .load 80 x) {p V : Value} (hx : a.eval x = p) (hl : (Instr.loadAt 80 p).run Tryz.prog w = .ok V w) : (execOp a.eval oo).run Tryz.prog w = .ok (.value V) w := by
  unfold execOp
  simp only [ho, hx, Sem.run_bind, Sem.run_pure, Result.andThen_ok, hl]
section
variable {B kb : Nat} {im : List Value} {o : Option Nat} {en : List Value} {w0 : World} {s : S} {w : World}
set_option maxRecDepth 100000 in
set_option maxHeartbeats 8000000 in
theorem tablesX (h : Sx B kb im o en w0 s w) {v : Value} {xs : List (Nat → Nat)} (hi : im[11]? = some v) (hr : ∀ W, Fx B w0 W → TbG W v xs) (hok : ∀ x ∈ xs, tbOk x) (hl : s.1.length + 4096 * xs.length ≤ 274877906944) : Calls Tryz.prog 55 #[.pointer (some ⟨kb, 0, none⟩)] w fun e w' => e = .returned (.tuple #[]) ∧ Sx B kb im o en w0 (eachS tabS xs s) w' := by
  have HR : Hid (∀ W, Fx B w0 W → TbG W v xs) := hr
  have HL : Hid (s.1.length + 4096 * xs.length ≤ 274877906944) := hl
  have HOk : Hid (∀ x ∈ xs, tbOk x) := hok
  have HI : Hid (∀ W n' zs' why', St B kb im o en w0 n' zs' why' W → W.cell? ⟨kb, 11, none⟩ = some v) := fun W n' zs' why' hW => (St.cell hW 11).trans ((lyC_im hW.him (by decide)).trans hi)
  have c11 := HI.out _ _ _ _ h
  obtain ⟨ao, cap, rfl, h1, h2, _⟩ := hr w h.fr
  unfold maxLen at h2
  obtain ⟨n, hn⟩ : ∃ n, xs.length = n := ⟨_, rfl⟩
  have HN := Lib.hid hn
  have H0 : Hid (Sx B kb im o en w0 (eachS tabS (xs.take 0) s) w) := Lib.hid h
  rw [hn] at h1 HR HI c11
  clear hn h hl hok hr hi
  go_enter Tryz.func55, Tryz.ntmps55
  go_wp2_with fail
  clear c11
  go_loopw [9] (fun iv wr => ∃ i : Nat, i ≤ n ∧ iv = .int .i64 (i : Int) ∧ Hid (Sx B kb im o en w0 (eachS tabS (xs.take i) s) wr)) (fun iv _ => n - (intOf iv).toNat)
  case atStart => exact ⟨0, Nat.zero_le _, rfl, H0⟩
  case round =>
    clear H0
    obtain ⟨i, hi, rfl, HJ⟩ := hrel
    by_cases hin : i < n
    · have ji : (i : Int) < (n : Int) := by omega
      have hix : i < xs.length := by rw [HN.out]; exact hin
      have hw1 : IntKind.i64.wrap ((i : Int) + 1) = ((i + 1 : Nat) : Int) := by rw [IntKind.wrap_i64]; omega
      have HE : Hid (∀ W, Sx B kb im o en w0 (tabS xs[i] (eachS tabS (xs.take i) s)) W → Sx B kb im o en w0 (eachS tabS (xs.take (i + 1)) s) W) := fun W hW => by rw [eachS_take _ _ _ _ hix]; exact hW
      have HLi : Hid ((eachS tabS (xs.take i) s).1.length + 4096 ≤ 274877906944) := show _ ≤ _ by
        rw [each_len tab_len, List.length_take]
        have := HL.out
        omega
      have hf := HOk.out xs[i] (List.getElem_mem _)
      have HTb : Hid (∀ W, Fx B w0 W → ∃ b o, ao = some ⟨b, o, none⟩ ∧ (Instr.loadAt 80 (.pointer (some ⟨b, o + i * 512, none⟩))).run Tryz.prog W = .ok (.agg (tabV xs[i])) W) := fun W hW => by
        obtain ⟨_, _, e', _, _, hc⟩ := HR.out W hW
        simp only [Value.slice.injEq] at e'
        obtain ⟨rfl, _, _⟩ := e'
        obtain ⟨b, o, e, hc⟩ := hc i hix
        exact ⟨b, o, e, cells_tab hc⟩
      generalize eachS tabS (xs.take i) s = si at HJ HE HLi
      generalize xs[i] = f at *
      obtain ⟨b, of, rfl, _⟩ := HTb.out wr HJ.out.fr
      have HLd : Hid (∀ W, Fx B w0 W → (Instr.loadAt 80 (.pointer (some ⟨b, of + i * 512, none⟩))).run Tryz.prog W = .ok (.agg (tabV f)) W) := fun W hW => by
        obtain ⟨b', o', e, h⟩ := HTb.out W hW
        cases e
        exact h
      obtain ⟨zs, y⟩ := si
      obtain ⟨T, hT⟩ : ∃ T, tbN f 512 = T := ⟨_, rfl⟩
      have HTl : Hid (T.length = 4096) := show _ = _ by rw [← hT]; exact tbN_len f 512
      have HTs : Hid (∀ z ∈ T, z < 256) := hT ▸ tbN_small f 512
      have HPp := Lib.hid (pbytes_any hf)
      rw [hT] at HPp
      have HTe : Hid (∀ (zs : List Nat) (y : Int), tabS f (zs, y) = (zs ++ T, y)) := fun zs y => by rw [tabS, bytesS, tb_eq, hT]
      clear hT
      obtain ⟨L, hL⟩ : ∃ L, zs.length = L := ⟨_, rfl⟩
      have HLz : Hid (zs.length = L) := hL
      have hJ : St B kb im o en w0 zs.length zs y wr := HJ.out
      have HFin : Hid (∀ W, St B kb im o en w0 (L + 4096) (zs ++ T) y W → Sx B kb im o en w0 (eachS tabS (xs.take (i + 1)) s) W) := fun W hW => HE.out _ (by
        show St _ _ _ _ _ _ _ _ _ _
        rw [HTe.out]
        have e2 : (zs ++ T).length = L + 4096 := by rw [List.length_append, HTl.out, hL]
        show St _ _ _ _ _ _ (zs ++ T).length _ _ _
        rw [e2]
        exact hW)
      rw [hL] at hJ
      have hl9 : L + 4096 ≤ 274877906944 := by have := HLi.out; simp only at this; omega
      obtain ⟨c12, c13, c59⟩ := hJ.cells
      have f13 := hJ.free 13
      have hw2 : IntKind.i64.wrap ((L : Int) + 4096) = ((L + 4096 : Nat) : Int) := by rw [IntKind.wrap_i64]; omega
      have h3 := hJ.setAt (L + 4096)
      rw [Int.natCast_add] at h3
      rw [Int.natCast_add] at hw2
      have c12' := h3.cells.1
      have H3 := Lib.hid h3
      clear hJ h3 HJ hL HTb HE
      cases o with
      | none =>
        simp only [outV, Option.map] at c12 c12'
        go_wp2_with fail
        go_roundw
        case rel => exact ⟨i + 1, by omega, rfl, HFin.out _ (H3.out.ghost HTs.out)⟩
        case measure => simp [intOf]; omega
      | some p =>
        simp only [outV, Option.map] at c12 c12'
        have HEn1 := Lib.hid (enters_of Tryz.func97 (by kernel_rfl) rfl)
        have HEn2 := Lib.hid (enters_of Tryz.func59 (by kernel_rfl) rfl)
        go_wp2_with fail
        generalize wr.setCell ⟨kb, 13, none⟩ (.int .i64 ((L : Int) + ((4096 : Nat) : Int))) = W3 at H3 c12'
        have HD : Hid (St B kb im (some p) en w0 (L + 4096) zs y W3.drew) := H3.out.below ⟨rfl, rfl, rfl, Nat.le_refl _, fun _ _ => rfl⟩
        have HS9 : Hid (∀ W, Below W3.drew.heap.size W3.drew W → W.cell? ⟨kb, 12, none⟩ = some (.pointer (some ⟨p, 0, none⟩)) ∧ W.cell? ⟨kb, 11, none⟩ = some (.slice (some ⟨b, of, none⟩) n cap) ∧ (Instr.loadAt 80 (.pointer (some ⟨b, of + i * 512, none⟩))).run Tryz.prog W = .ok (.agg (tabV f)) W) := fun W hW => by
          have hs := HD.out.below hW
          exact ⟨hs.cells.1, HI.out _ _ _ _ hs, HLd.out _ hs.fr⟩
        have HPb : Hid (Calls Tryz.prog 97 #[.agg (tabV f)] W3.drew fun e w' => ∃ v, e = .returned v ∧ ∃ g, v = .slice (some ⟨g, 0, none⟩) 4096 4096 ∧ Row w' g T ∧ Below W3.drew.heap.size W3.drew w') := (HPp.out W3.drew).mono (fun e w' h => by
          obtain ⟨g, rfl, _, h2, h3⟩ := h
          exact ⟨_, rfl, g, rfl, h2, h3⟩)
        have HPw : Hid (∀ W g, Row W g T → Below W3.drew.heap.size W3.drew W → Calls Tryz.prog 59 #[.pointer (some ⟨p, 0, none⟩), .slice (some ⟨g, 0, none⟩) 4096 4096] W fun e w' => ∃ v, e = .returned v ∧ v = .tuple #[] ∧ Sx B kb im (some p) en w0 (eachS tabS (xs.take (i + 1)) s) w') := fun W g hg hW => by
          have hs := HD.out.below hW
          obtain ⟨u, hu, hp, hB⟩ := hs.wr
          have hsl : Sl W (.slice (some ⟨g, 0, none⟩) 4096 4096) T := by
            have ho : Own W 0 (.slice (some ⟨g, 0, none⟩) T.length T.length) T := ⟨by simp [bvs], .inr ⟨g, T.length, _, rfl, Nat.zero_le _, hg, Nat.le_refl _, by rw [HTl.out]; unfold maxLen; omega, by simp [bvs], by rw [List.take_of_length_le (by simp [bvs])]⟩⟩
            have := ho.sl HTs.out
            rw [HTl.out] at this
            exact this
          refine (wbytes_any hu hsl (by have := HLz.out; omega) (by rw [HTl.out]; omega) hs.le).mono ?_
          rintro e w' ⟨rfl, v', hv', hk', _⟩
          exact ⟨_, rfl, rfl, HFin.out _ (hs.put hu hp hB hv' hk')⟩
        clear HD HFin HLd HI
        refine regionJ (fun w' => w'.cell? ⟨kb, 12, none⟩ = some (.pointer (some ⟨p, 0, none⟩)) ∧ w'.cell? ⟨kb, 11, none⟩ = some (.slice (some ⟨b, of, none⟩) n cap) ∧ (Instr.loadAt 80 (.pointer (some ⟨b, of + i * 512, none⟩))).run Tryz.prog w' = .ok (.agg (tabV f)) w') 13 (by kernel_rfl) (by kernel_rfl) (HS9.out _ (Below.refl _ _)) (fun hS hA => ?_)
        refine takeJ (i := 0) (d := 24) (Value.pointer (some ⟨kb, 0, none⟩)) hA (by decide) rfl rfl (by kernel_rfl) (by kernel_rfl) (by kernel_rfl) (by kernel_rfl) (by kernel_rfl) (fun _ _ _ h => h) hS (by rfl) (fun wz9 hz => ?_) ?_
        · (try dsimp only at hz); obtain ⟨z1, z2, z3⟩ := hz; go_simp
        simp only [Act.put, List.setIfInBounds_toArray, List.set_cons_zero, List.set_cons_succ]
        refine takeJ (i := 1) (d := 25) (Value.pointer (some ⟨kb, 0, none⟩)) hA (by decide) rfl rfl (by kernel_rfl) (by kernel_rfl) (by kernel_rfl) (by kernel_rfl) (by kernel_rfl) (fun _ _ _ h => h) hS (by rfl) (fun wz9 hz => ?_) ?_
        · (try dsimp only at hz); obtain ⟨z1, z2, z3⟩ := hz; go_simp
        simp only [Act.put, List.setIfInBounds_toArray, List.set_cons_zero, List.set_cons_succ]
        refine takeJ (i := 2) (d := 26) (Value.pointer (some ⟨kb, 12, none⟩)) hA (by decide) rfl rfl (by kernel_rfl) (by kernel_rfl) (by kernel_rfl) (by kernel_rfl) (by kernel_rfl) (fun _ _ _ h => h) hS (by rfl) (fun wz9 hz => ?_) ?_
        · (try dsimp only at hz); obtain ⟨z1, z2, z3⟩ := hz; go_simp
        simp only [Act.put, List.setIfInBounds_toArray, List.set_cons_zero, List.set_cons_succ]
        refine takeJ (i := 3) (d := 27) (Value.pointer (some ⟨p, 0, none⟩)) hA (by decide) rfl rfl (by kernel_rfl) (by kernel_rfl) (by kernel_rfl) (by kernel_rfl) (by kernel_rfl) (fun _ _ _ h => h) hS (by rfl) (fun wz9 hz => ?_) ?_
        · (try dsimp only at hz); obtain ⟨z1, z2, z3⟩ := hz; go_simp
        simp only [Act.put, List.setIfInBounds_toArray, List.set_cons_zero, List.set_cons_succ]
        refine takeJ (i := 4) (d := 28) (Value.pointer (some ⟨kb, 0, none⟩)) hA (by decide) rfl rfl (by kernel_rfl) (by kernel_rfl) (by kernel_rfl) (by kernel_rfl) (by kernel_rfl) (fun _ _ _ h => h) hS (by rfl) (fun wz9 hz => ?_) ?_
        · (try dsimp only at hz); obtain ⟨z1, z2, z3⟩ := hz; go_simp
        simp only [Act.put, List.setIfInBounds_toArray, List.set_cons_zero, List.set_cons_succ]
        refine takeJ (i := 5) (d := 29) (Value.pointer (some ⟨kb, 0, none⟩)) hA (by decide) rfl rfl (by kernel_rfl) (by kernel_rfl) (by kernel_rfl) (by kernel_rfl) (by kernel_rfl) (fun _ _ _ h => h) hS (by rfl) (fun wz9 hz => ?_) ?_
        · (try dsimp only at hz); obtain ⟨z1, z2, z3⟩ := hz; go_simp
        simp only [Act.put, List.setIfInBounds_toArray, List.set_cons_zero, List.set_cons_succ]
        refine takeJ (i := 6) (d := 30) (Value.pointer (some ⟨kb, 0, none⟩)) hA (by decide) rfl rfl (by kernel_rfl) (by kernel_rfl) (by kernel_rfl) (by kernel_rfl) (by kernel_rfl) (fun _ _ _ h => h) hS (by rfl) (fun wz9 hz => ?_) ?_
        · (try dsimp only at hz); obtain ⟨z1, z2, z3⟩ := hz; go_simp
        simp only [Act.put, List.setIfInBounds_toArray, List.set_cons_zero, List.set_cons_succ]
        refine takeJ (i := 7) (d := 31) (Value.pointer (some ⟨kb, 11, none⟩)) hA (by decide) rfl rfl (by kernel_rfl) (by kernel_rfl) (by kernel_rfl) (by kernel_rfl) (by kernel_rfl) (fun _ _ _ h => h) hS (by rfl) (fun wz9 hz => ?_) ?_
        · (try dsimp only at hz); obtain ⟨z1, z2, z3⟩ := hz; go_simp
        simp only [Act.put, List.setIfInBounds_toArray, List.set_cons_zero, List.set_cons_succ]
        refine takeJ (i := 8) (d := 32) (Value.slice (some ⟨b, of, none⟩) n cap) hA (by decide) rfl rfl (by kernel_rfl) (by kernel_rfl) (by kernel_rfl) (by kernel_rfl) (by kernel_rfl) (fun _ _ _ h => h) hS (by rfl) (fun wz9 hz => ?_) ?_
        · (try dsimp only at hz); obtain ⟨z1, z2, z3⟩ := hz; go_simp
        simp only [Act.put, List.setIfInBounds_toArray, List.set_cons_zero, List.set_cons_succ]
        refine takeJ (i := 9) (d := 33) (Value.int .i64 (i : Int)) hA (by decide) rfl rfl (by kernel_rfl) (by kernel_rfl) (by kernel_rfl) (by kernel_rfl) (by kernel_rfl) (fun _ _ _ h => h) hS (by rfl) (fun wz9 hz => ?_) ?_
        · (try dsimp only at hz); obtain ⟨z1, z2, z3⟩ := hz; go_simp
        simp only [Act.put, List.setIfInBounds_toArray, List.set_cons_zero, List.set_cons_succ]
        refine takeJ (i := 10) (d := 34) (Value.pointer (some ⟨b, of + i * 512, none⟩)) hA (by decide) rfl rfl (by kernel_rfl) (by kernel_rfl) (by kernel_rfl) (by kernel_rfl) (by kernel_rfl) (fun _ _ _ h => h) hS (by rfl) (fun wz9 hz => ?_) ?_
        · (try dsimp only at hz); obtain ⟨z1, z2, z3⟩ := hz; go_simp
        simp only [Act.put, List.setIfInBounds_toArray, List.set_cons_zero, List.set_cons_succ]
        refine takeJ (i := 11) (d := 35) (Value.agg (tabV f)) hA (by decide) rfl rfl (by kernel_rfl) (by kernel_rfl) (by kernel_rfl) (by kernel_rfl) (by kernel_rfl) (fun _ _ _ h => h) hS (by rfl) (fun wz9 hz => ?_) ?_
        · (try dsimp only at hz); exact load_run (.tmp 34) rfl rfl hz.2.2
        simp only [Act.put, List.setIfInBounds_toArray, List.set_cons_zero, List.set_cons_succ]
        refine callJ (i := 12) (d := 36) (by kernel_rfl) rfl rfl (by rfl) 97 _ _ rfl HEn1.out _ (by simp [Act.eval]) HPb.out (fun v w' hR _ _ => ?_) (fun v x1 hR => ?_)
        · obtain ⟨g, _, _, hb9⟩ := hR
          exact HS9.out _ hb9
        obtain ⟨g, rfl, hg9, hb9⟩ := hR
        have HPx := Lib.hid (HPw.out _ _ hg9 hb9)
        clear hg9 hb9 hS HPw HPb HS9
        simp only [Act.put, List.setIfInBounds_toArray, List.set_cons_zero, List.set_cons_succ]
        refine callJ (i := 13) (d := 37) (by kernel_rfl) rfl rfl (by rfl) 59 _ _ rfl HEn2.out _ (by simp [Act.eval]) HPx.out (fun v w' hR h _ => absurd rfl h) (fun v x2 hR => ?_)
        obtain ⟨rfl, h9⟩ := hR
        have H9 := Lib.hid h9
        clear h9 HPx
        simp only [Act.put, List.setIfInBounds_toArray, List.set_cons_zero, List.set_cons_succ]
        refine doneJ (by kernel_rfl) ?_ _
        go_wp2_with fail
        go_roundw
        case rel => exact ⟨i + 1, by omega, rfl, H9⟩
        case measure => simp [intOf]; omega
    · obtain rfl : i = n := by omega
      have ji : ¬ (i : Int) < (i : Int) := by omega
      have HE : Hid (eachS tabS (xs.take i) s = eachS tabS xs s) := show _ = _ by rw [List.take_of_length_le (by rw [HN.out]; exact Nat.le_refl _)]
      rw [HE.out] at HJ
      go_wp2_with fail
      go_end0
      exact ⟨rfl, HJ.out⟩
end
end Go.Proofs.YtmfkggngjeolcaaGreatDoor
/- Bundle: the image that is laid down; its sections. Own work. -/
namespace Go.Proofs.YtmfkggngjeolcaaGreatDoor
open Go.RowKit Bn
set_option linter.unusedVariables false
set_option linter.unusedSimpArgs false
/-- the image's cells, and what they lead to -/
structure ImG (B : Nat) (w0 : World) (im : List Value) (I : Im) : Prop where
  base : im[0]? = some (.int .u64 (I.base : Int)) ∧ I.base ≤ 18446744073709551615
  rams : ∃ v, im[1]? = some v ∧ (∀ W, Fx B w0 W → RowG 2 rgE W v I.rams) ∧ ∀ x ∈ I.rams, rgOk x
  devs : ∃ v, im[2]? = some v ∧ (∀ W, Fx B w0 W → RowG 2 rgE W v I.devs) ∧ ∀ x ∈ I.devs, rgOk x
  subs : ∃ v, im[3]? = some v ∧ (∀ W, Fx B w0 W → RowG 6 tnE W v I.subs) ∧ ∀ x ∈ I.subs, tnOk x
  ports : ∃ v, im[4]? = some v ∧ (∀ W, Fx B w0 W → RowG 1 poE W v I.ports) ∧ ∀ x ∈ I.ports, I64R x
  regs : ∃ v, im[5]? = some v ∧ (∀ W, Fx B w0 W → RowG 4 gdE W v I.regs) ∧ ∀ x ∈ I.regs, gdOk x
  chs : ∃ v, im[6]? = some v ∧ (∀ W, Fx B w0 W → RowG 5 lkE W v I.chs) ∧ ∀ x ∈ I.chs, lkOk x
  irqs : ∃ v, im[7]? = some v ∧ (∀ W, Fx B w0 W → RowG 5 lkE W v I.irqs) ∧ ∀ x ∈ I.irqs, lkOk x
  plans : ∃ v wz, im[8]? = some v ∧ PlG wz v I.plans ∧ (∀ W, Fx B w0 W → Below wz.heap.size wz W) ∧ ∀ x ∈ I.plans, scOk x
  master : im[9]? = some (.int .i64 I.master) ∧ I64R I.master
  start : im[10]? = some (.int .i64 I.start) ∧ I64R I.start
  tabs : ∃ v, im[11]? = some v ∧ (∀ W, Fx B w0 W → TbG W v I.tabs) ∧ ∀ x ∈ I.tabs, tbOk x
/-- a bound of all its bytes -/
def szI (I : Im) : Nat := 1000 + 16 * I.rams.length + 16 * I.devs.length + 8 * I.subs.length + 8 * I.ports.length + gsum I.regs + 8 * I.chs.length + 8 * I.irqs.length + psum I.plans + 4096 * I.tabs.length
def secS (I : Im) : Nat → S → S
  | 0 => roomS I
  | 1 => busS I
  | 2 => subsS I
  | 3 => portsS I
  | 4 => regsS I
  | 5 => chsS I
  | 6 => irqsS I
  | 7 => plansS I
  | _ => tabsS I
theorem lanesN_eq (I : Im) : lanesN I = lanesL I.plans := by
  unfold lanesN
  cases I.plans <;> rfl
theorem sec_len (I : Im) (k : Nat) (s : S) : (secS I k s).1.length ≤ s.1.length + szI I := by
  unfold szI
  match k with
  | 0 => show (roomS I s).1.length ≤ _; rw [roomS, zeros_len, field_len]; omega
  | 1 => show (busS I s).1.length ≤ _; rw [busS, each_len rangeS_len, each_len rangeS_len, zeros_len, half_len, half_len]; omega
  | 2 => show (subsS I s).1.length ≤ _; rw [subsS, each_len tenS_len, many_len]; omega
  | 3 => show (portsS I s).1.length ≤ _; rw [portsS, each_len portS_len, many_len, field_len]; omega
  | 4 =>
    show (regsS I s).1.length ≤ _
    have := gds_le I.regs (manyS I.regs.length s)
    rw [many_len] at this
    rw [regsS]
    omega
  | 5 => show (chsS I s).1.length ≤ _; rw [chsS, each_len chS_len, many_len]; omega
  | 6 => show (irqsS I s).1.length ≤ _; rw [irqsS, each_len iqS_len, many_len]; omega
  | 7 => show (plansS I s).1.length ≤ _; rw [plansS, plans_len, half_len, none_len, half_len, half_len]; omega
  | k + 8 => show (tabsS I s).1.length ≤ _; rw [tabsS, each_len tab_len]; omega
section
variable {B kb : Nat} {im : List Value} {o : Option Nat} {en : List Value} {w0 : World} {s : S} {w : World} {I : Im}
theorem sec0X (hI : ImG B w0 im I) (h : Sx B kb im o en w0 s w) (hl : s.1.length + szI I ≤ 269000000000) : Calls Tryz.prog 47 #[.pointer (some ⟨kb, 0, none⟩)] w fun e w' => e = .returned (.tuple #[]) ∧ Sx B kb im o en w0 (secS I 0 s) w' := by
  unfold szI at hl
  exact roomX h hI.base.1 hI.base.2 (by omega)
theorem sec1X (hI : ImG B w0 im I) (h : Sx B kb im o en w0 s w) (hl : s.1.length + szI I ≤ 269000000000) : Calls Tryz.prog 48 #[.pointer (some ⟨kb, 0, none⟩)] w fun e w' => e = .returned (.tuple #[]) ∧ Sx B kb im o en w0 (secS I 1 s) w' := by
  unfold szI at hl
  obtain ⟨v, h1, h2, h3⟩ := hI.rams
  obtain ⟨u, g1, g2, g3⟩ := hI.devs
  exact busX h h1 g1 h2 g2 h3 g3 (by omega)
theorem sec2X (hI : ImG B w0 im I) (h : Sx B kb im o en w0 s w) (hl : s.1.length + szI I ≤ 269000000000) : Calls Tryz.prog 49 #[.pointer (some ⟨kb, 0, none⟩)] w fun e w' => e = .returned (.tuple #[]) ∧ Sx B kb im o en w0 (secS I 2 s) w' := by
  unfold szI at hl
  obtain ⟨v, h1, h2, h3⟩ := hI.subs
  exact subjectsX h h1 h2 h3 (by omega)
theorem sec3X (hI : ImG B w0 im I) (h : Sx B kb im o en w0 s w) (hl : s.1.length + szI I ≤ 269000000000) : Calls Tryz.prog 50 #[.pointer (some ⟨kb, 0, none⟩)] w fun e w' => e = .returned (.tuple #[]) ∧ Sx B kb im o en w0 (secS I 3 s) w' := by
  unfold szI at hl
  obtain ⟨v, h1, h2, h3⟩ := hI.ports
  obtain ⟨u, g1, g2, _⟩ := hI.devs
  obtain ⟨ao, cap, rfl, _⟩ := g2 w h.fr
  exact portsX h h1 g1 h2 h3 (by omega)
theorem sec4X (hI : ImG B w0 im I) (h : Sx B kb im o en w0 s w) (hl : s.1.length + szI I ≤ 269000000000) : Calls Tryz.prog 51 #[.pointer (some ⟨kb, 0, none⟩)] w fun e w' => e = .returned (.tuple #[]) ∧ Sx B kb im o en w0 (secS I 4 s) w' := by
  unfold szI at hl
  obtain ⟨v, h1, h2, h3⟩ := hI.regs
  exact regionsX h h1 h2 h3 (by omega)
theorem sec5X (hI : ImG B w0 im I) (h : Sx B kb im o en w0 s w) (hl : s.1.length + szI I ≤ 269000000000) : Calls Tryz.prog 52 #[.pointer (some ⟨kb, 0, none⟩)] w fun e w' => e = .returned (.tuple #[]) ∧ Sx B kb im o en w0 (secS I 5 s) w' := by
  unfold szI at hl
  obtain ⟨v, h1, h2, h3⟩ := hI.chs
  exact channelsX h h1 h2 h3 (by omega)
theorem sec6X (hI : ImG B w0 im I) (h : Sx B kb im o en w0 s w) (hl : s.1.length + szI I ≤ 269000000000) : Calls Tryz.prog 53 #[.pointer (some ⟨kb, 0, none⟩)] w fun e w' => e = .returned (.tuple #[]) ∧ Sx B kb im o en w0 (secS I 6 s) w' := by
  unfold szI at hl
  obtain ⟨v, h1, h2, h3⟩ := hI.irqs
  exact irqsX h h1 h2 h3 (by omega)
theorem sec7X (hI : ImG B w0 im I) (h : Sx B kb im o en w0 s w) (hl : s.1.length + szI I ≤ 269000000000) : Calls Tryz.prog 54 #[.pointer (some ⟨kb, 0, none⟩)] w fun e w' => e = .returned (.tuple #[]) ∧ Sx B kb im o en w0 (secS I 7 s) w' := by
  unfold szI at hl
  obtain ⟨v, wz, h1, h2, h3, h4⟩ := hI.plans
  have := plansX h h1 hI.master.1 hI.start.1 h2 h3 h4 hI.master.2 hI.start.2 (by omega)
  show Calls _ _ _ _ (fun e w' => _ ∧ Sx B kb im o en w0 (plansS I s) w')
  rw [plansS, lanesN_eq]
  exact this
theorem sec8X (hI : ImG B w0 im I) (h : Sx B kb im o en w0 s w) (hl : s.1.length + szI I ≤ 269000000000) : Calls Tryz.prog 55 #[.pointer (some ⟨kb, 0, none⟩)] w fun e w' => e = .returned (.tuple #[]) ∧ Sx B kb im o en w0 (secS I 8 s) w' := by
  unfold szI at hl
  obtain ⟨v, h1, h2, h3⟩ := hI.tabs
  exact tablesX h h1 h2 h3 (by omega)
end
end Go.Proofs.YtmfkggngjeolcaaGreatDoor
/- Bundle: all: nine parts, one behind the other (written by parts/gen_bnall.py). Own work. -/
namespace Go.Proofs.YtmfkggngjeolcaaGreatDoor
open Go.RowKit Bn
set_option linter.unusedVariables false
set_option linter.unusedSimpArgs false
/-- what is laid behind k parts -/
def stN (I : Im) : Nat → S
  | 0 => ([], 0)
  | k + 1 => secS I k (zerosS (begN k (stN I k).1.length - (stN I k).1.length) (stN I k))
def fstN (I : Im) (k : Nat) : Nat := begN k (stN I k).1.length
def lenN (I : Im) (k : Nat) : Nat := (stN I (k + 1)).1.length - fstN I k
def entC (k f l : Nat) : List Value := [.int .i64 (k : Int), .int .i64 0, .int .i64 (f : Int), .int .i64 (l : Int), .int .u32 0]
def enN (I : Im) (k : Nat) : List Value := (List.range 9).flatMap fun j => if j < k then entC j (fstN I j) (lenN I j) else entC 0 0 0
theorem enN_len (I : Im) (k : Nat) : (enN I k).length = 45 := by
  have : ∀ j, (if j < k then entC j (fstN I j) (lenN I j) else entC 0 0 0).length = 5 := fun j => by split <;> rfl
  simp [enN, List.range_succ, List.flatMap_append, this]
theorem beg_le (k a : Nat) : begN k a ≤ a + 4095 ∧ a ≤ begN k a := by
  unfold begN
  split
  · exact up_le4 a
  · have := up_le a; omega
/-- what is laid grows -/
theorem each_ge {α : Type} {f : α → S → S} (hf : ∀ x s, s.1.length ≤ (f x s).1.length) : ∀ (xs : List α) (s : S), s.1.length ≤ (eachS f xs s).1.length
  | [], s => Nat.le_refl _
  | x :: xs, s => Nat.le_trans (hf x s) (each_ge hf xs (f x s))
theorem gd_ge (g : Gd) (s : S) : s.1.length ≤ (gdS g s).1.length := by
  rw [gdS, textS, pad_len]
  have := (up_le (bytesS (bts g.txt) (wordS (g.txt.size : Int) (askS (decide (g.txt.size ≤ 1048576)) 3 (zerosS 3 (byteS (g.fill : Int) (longS g.sz (longS g.ad s))))))).1.length).2
  rw [bytes_len, word_len, ask_len, zeros_len, byte_len, long_len, long_len] at this
  rw [bytes_len, word_len, ask_len, zeros_len, byte_len, long_len, long_len]
  omega
theorem sec_ge (I : Im) (k : Nat) (s : S) : s.1.length ≤ (secS I k s).1.length := by
  match k with
  | 0 => show _ ≤ (roomS I s).1.length; rw [roomS, zeros_len, field_len]; omega
  | 1 => show _ ≤ (busS I s).1.length; rw [busS, each_len rangeS_len, each_len rangeS_len, zeros_len, half_len, half_len]; omega
  | 2 => show _ ≤ (subsS I s).1.length; rw [subsS, each_len tenS_len, many_len]; omega
  | 3 => show _ ≤ (portsS I s).1.length; rw [portsS, each_len portS_len, many_len, field_len]; omega
  | 4 =>
    show _ ≤ (regsS I s).1.length
    have := each_ge gd_ge I.regs (manyS I.regs.length s)
    rw [many_len] at this
    rw [regsS]
    omega
  | 5 => show _ ≤ (chsS I s).1.length; rw [chsS, each_len chS_len, many_len]; omega
  | 6 => show _ ≤ (irqsS I s).1.length; rw [irqsS, each_len iqS_len, many_len]; omega
  | 7 => show _ ≤ (plansS I s).1.length; rw [plansS, plans_len, half_len, none_len, half_len, half_len]; omega
  | k + 8 => show _ ≤ (tabsS I s).1.length; rw [tabsS, each_len tab_len]; omega
theorem stN_le (I : Im) : ∀ k, (stN I k).1.length ≤ k * (szI I + 4096)
  | 0 => by simp [stN]
  | k + 1 => by
    have h1 := stN_le I k
    have h2 := sec_len I k (zerosS (begN k (stN I k).1.length - (stN I k).1.length) (stN I k))
    rw [zeros_len] at h2
    have h3 := beg_le k (stN I k).1.length
    rw [stN, Nat.add_mul]
    omega
theorem fst_le (I : Im) (k : Nat) (h : k < 9) : fstN I k ≤ (stN I (k + 1)).1.length := by
  have := sec_ge I k (zerosS (begN k (stN I k).1.length - (stN I k).1.length) (stN I k))
  rw [zeros_len] at this
  have h3 := beg_le k (stN I k).1.length
  rw [stN, fstN]
  omega
/-- a row of cells, written and read whole -/
theorem wpList_store_arr {ops : Array Oper} {rest : List Oper} {oo : Oper} {a : Act} {w : World} {Q : Exit → Act → World → Prop} (hgd : oo.guard = none) (ty : TypeId) (x y : Operand) (ho : oo.op = .store ty x y) {b : Nat} {Z g : Array Value} (hx : a.eval x = .pointer (some ⟨b, 0, none⟩)) (hy : a.eval y = .agg g) (hd : oo.dst = none) (h : w.heap[b]? = some (.cells Z ty (0, 0))) (hz : (Tryz.prog.info? ty).map (·.size) = some g.size) (hs : Z.size = g.size) (h1 : g.all (·.oneCell') = true) (hk : wpList Tryz.prog ops Q rest a (w.setRow b g)) : wpList Tryz.prog ops Q (oo :: rest) a w :=
  wpList_plain hgd fun K hK => by
    have hr : (Instr.storeAt ty (.pointer (some ⟨b, 0, none⟩)) (.agg g)).run Tryz.prog w = .ok () (w.setRow b g) := by
      simp only [Instr.storeAt, Instr.sureAddr, Sem.run_bind, Sem.run_pure, Result.andThen]
      exact run_storeVar_row w b ty ty Z g h hz hs h1
    unfold Oper.wp execOp
    simp only [ho, hx, hy, Sem.run_bind, Sem.run_pure, Result.andThen_ok, hr]
    rw [Oper.upon_skip, hd]
    exact hK _ _ hk
theorem wpList_load_arr {ops : Array Oper} {rest : List Oper} {oo : Oper} {a : Act} {w : World} {Q : Exit → Act → World → Prop} (hgd : oo.guard = none) (ty : TypeId) (x : Operand) (ho : oo.op = .load ty x) {b : Nat} {g : Array Value} {d : TypeDesc} (hx : a.eval x = .pointer (some ⟨b, 0, none⟩)) (h : w.heap[b]? = some (.cells g ty (0, 0))) (hu : Tryz.prog.underlying ty = some d) (hd : d.isRow = true) (hz : (Tryz.prog.info? ty).map (·.size) = some g.size) (hk : wpList Tryz.prog ops Q rest (a.put oo.dst (.agg g)) w) : wpList Tryz.prog ops Q (oo :: rest) a w :=
  wpList_plain hgd fun K hK => by
    have hr : (Instr.loadAt ty (.pointer (some ⟨b, 0, none⟩))).run Tryz.prog w = .ok (.agg g) w := by
      have := run_loadAt_mid (P := Tryz.prog) w b 0 ty g.toList d (fun j v hv => by
        rw [Nat.zero_add, cell_of_row _ _ _ _ _ _ h, ← Array.getElem?_toList]
        exact hv) hu hd (by rw [Array.length_toList]; exact hz)
      simpa using this
    unfold Oper.wp execOp
    simp only [ho, hx, Sem.run_bind, Sem.run_pure, Result.andThen_ok, hr]
    exact hK _ _ hk
theorem store_exec {oo : Oper} {a : Act} {w : World} (ty : TypeId) {x y : Operand} (ho : oo.op = .store ty x y) {b o : Nat} {c : Array Value} (hx : a.eval x = .pointer (some ⟨b, o, none⟩)) (hy : a.eval y = .agg c) (ht : w.there b o 5) (hi : (Tryz.prog.info? ty).map (·.size) = some 5) (hc : c.size = 5) (h1 : c.all (·.oneCell') = true := by kernel_rfl) : (execOp a.eval oo).run Tryz.prog w = .ok .skip (w.setCells b o c.toList) := by
  unfold execOp
  simp only [ho, hx, hy, Sem.run_bind, Sem.run_pure, Result.andThen_ok, run_storeAt_mid w b o ty c (by rw [hc]; exact ht) (by rw [hc]; exact hi) h1]
theorem info_en : (Tryz.prog.info? 88).map (·.size) = some 5 := by kernel_rfl
def fun9 (kb : Nat) : Array Value := #[Value.func (.func 47) #[.pointer (some ⟨kb, 0, none⟩)] #[], Value.func (.func 48) #[.pointer (some ⟨kb, 0, none⟩)] #[], Value.func (.func 49) #[.pointer (some ⟨kb, 0, none⟩)] #[], Value.func (.func 50) #[.pointer (some ⟨kb, 0, none⟩)] #[], Value.func (.func 51) #[.pointer (some ⟨kb, 0, none⟩)] #[], Value.func (.func 52) #[.pointer (some ⟨kb, 0, none⟩)] #[], Value.func (.func 53) #[.pointer (some ⟨kb, 0, none⟩)] #[], Value.func (.func 54) #[.pointer (some ⟨kb, 0, none⟩)] #[], Value.func (.func 55) #[.pointer (some ⟨kb, 0, none⟩)] #[]]
def nil9 : Array Value := #[.nilFunc, .nilFunc, .nilFunc, .nilFunc, .nilFunc, .nilFunc, .nilFunc, .nilFunc, .nilFunc]
theorem info_9 (kb : Nat) : (Tryz.prog.info? 123).map (·.size) = some (fun9 kb).size := by kernel_rfl
theorem fun9_at0 (kb : Nat) (W : World) : (Instr.index 123 (.agg (fun9 kb)) (.int .i64 0)).run Tryz.prog W = .ok (.func (.func 47) #[.pointer (some ⟨kb, 0, none⟩)] #[]) W := by
  have hu := Tryz.underlying123
  have hz : (Tryz.prog.info? 1).map (·.size) = some 1 := by kernel_rfl
  have hb := Tryz.underlying1
  obtain ⟨i, hi1, hi2⟩ := Option.map_eq_some_iff.1 hz
  simp [Instr.index, run_underlying hu, asIntOf, sizeOf, typeInfo, hi1, hi2, part, isAgg, run_underlying hb, fun9, go_sem]
theorem fun9_at1 (kb : Nat) (W : World) : (Instr.index 123 (.agg (fun9 kb)) (.int .i64 1)).run Tryz.prog W = .ok (.func (.func 48) #[.pointer (some ⟨kb, 0, none⟩)] #[]) W := by
  have hu := Tryz.underlying123
  have hz : (Tryz.prog.info? 1).map (·.size) = some 1 := by kernel_rfl
  have hb := Tryz.underlying1
  obtain ⟨i, hi1, hi2⟩ := Option.map_eq_some_iff.1 hz
  simp [Instr.index, run_underlying hu, asIntOf, sizeOf, typeInfo, hi1, hi2, part, isAgg, run_underlying hb, fun9, go_sem]
theorem fun9_at2 (kb : Nat) (W : World) : (Instr.index 123 (.agg (fun9 kb)) (.int .i64 2)).run Tryz.prog W = .ok (.func (.func 49) #[.pointer (some ⟨kb, 0, none⟩)] #[]) W := by
  have hu := Tryz.underlying123
  have hz : (Tryz.prog.info? 1).map (·.size) = some 1 := by kernel_rfl
  have hb := Tryz.underlying1
  obtain ⟨i, hi1, hi2⟩ := Option.map_eq_some_iff.1 hz
  simp [Instr.index, run_underlying hu, asIntOf, sizeOf, typeInfo, hi1, hi2, part, isAgg, run_underlying hb, fun9, go_sem]
theorem fun9_at3 (kb : Nat) (W : World) : (Instr.index 123 (.agg (fun9 kb)) (.int .i64 3)).run Tryz.prog W = .ok (.func (.func 50) #[.pointer (some ⟨kb, 0, none⟩)] #[]) W := by
  have hu := Tryz.underlying123
  have hz : (Tryz.prog.info? 1).map (·.size) = some 1 := by kernel_rfl
  have hb := Tryz.underlying1
  obtain ⟨i, hi1, hi2⟩ := Option.map_eq_some_iff.1 hz
  simp [Instr.index, run_underlying hu, asIntOf, sizeOf, typeInfo, hi1, hi2, part, isAgg, run_underlying hb, fun9, go_sem]
theorem fun9_at4 (kb : Nat) (W : World) : (Instr.index 123 (.agg (fun9 kb)) (.int .i64 4)).run Tryz.prog W = .ok (.func (.func 51) #[.pointer (some ⟨kb, 0, none⟩)] #[]) W := by
  have hu := Tryz.underlying123
  have hz : (Tryz.prog.info? 1).map (·.size) = some 1 := by kernel_rfl
  have hb := Tryz.underlying1
  obtain ⟨i, hi1, hi2⟩ := Option.map_eq_some_iff.1 hz
  simp [Instr.index, run_underlying hu, asIntOf, sizeOf, typeInfo, hi1, hi2, part, isAgg, run_underlying hb, fun9, go_sem]
theorem fun9_at5 (kb : Nat) (W : World) : (Instr.index 123 (.agg (fun9 kb)) (.int .i64 5)).run Tryz.prog W = .ok (.func (.func 52) #[.pointer (some ⟨kb, 0, none⟩)] #[]) W := by
  have hu := Tryz.underlying123
  have hz : (Tryz.prog.info? 1).map (·.size) = some 1 := by kernel_rfl
  have hb := Tryz.underlying1
  obtain ⟨i, hi1, hi2⟩ := Option.map_eq_some_iff.1 hz
  simp [Instr.index, run_underlying hu, asIntOf, sizeOf, typeInfo, hi1, hi2, part, isAgg, run_underlying hb, fun9, go_sem]
theorem fun9_at6 (kb : Nat) (W : World) : (Instr.index 123 (.agg (fun9 kb)) (.int .i64 6)).run Tryz.prog W = .ok (.func (.func 53) #[.pointer (some ⟨kb, 0, none⟩)] #[]) W := by
  have hu := Tryz.underlying123
  have hz : (Tryz.prog.info? 1).map (·.size) = some 1 := by kernel_rfl
  have hb := Tryz.underlying1
  obtain ⟨i, hi1, hi2⟩ := Option.map_eq_some_iff.1 hz
  simp [Instr.index, run_underlying hu, asIntOf, sizeOf, typeInfo, hi1, hi2, part, isAgg, run_underlying hb, fun9, go_sem]
theorem fun9_at7 (kb : Nat) (W : World) : (Instr.index 123 (.agg (fun9 kb)) (.int .i64 7)).run Tryz.prog W = .ok (.func (.func 54) #[.pointer (some ⟨kb, 0, none⟩)] #[]) W := by
  have hu := Tryz.underlying123
  have hz : (Tryz.prog.info? 1).map (·.size) = some 1 := by kernel_rfl
  have hb := Tryz.underlying1
  obtain ⟨i, hi1, hi2⟩ := Option.map_eq_some_iff.1 hz
  simp [Instr.index, run_underlying hu, asIntOf, sizeOf, typeInfo, hi1, hi2, part, isAgg, run_underlying hb, fun9, go_sem]
theorem fun9_at8 (kb : Nat) (W : World) : (Instr.index 123 (.agg (fun9 kb)) (.int .i64 8)).run Tryz.prog W = .ok (.func (.func 55) #[.pointer (some ⟨kb, 0, none⟩)] #[]) W := by
  have hu := Tryz.underlying123
  have hz : (Tryz.prog.info? 1).map (·.size) = some 1 := by kernel_rfl
  have hb := Tryz.underlying1
  obtain ⟨i, hi1, hi2⟩ := Option.map_eq_some_iff.1 hz
  simp [Instr.index, run_underlying hu, asIntOf, sizeOf, typeInfo, hi1, hi2, part, isAgg, run_underlying hb, fun9, go_sem]
theorem fun9_one (kb : Nat) : (fun9 kb).all (·.oneCell') = true := by kernel_rfl
section
variable {B kb : Nat} {im : List Value} {o : Option Nat} {w0 : World} {w : World} {I : Im}
set_option maxRecDepth 100000 in
set_option maxHeartbeats 64000000 in
theorem allX (hI : ImG B w0 im I) (h : Sx B kb im o (enN I 0) w0 ([], 0) w) (hs : szI I ≤ 20000000000) : Calls Tryz.prog 24 #[.pointer (some ⟨kb, 0, none⟩)] w fun e w' => e = .returned (.tuple #[]) ∧ Sx B kb im o (enN I 9) w0 (stN I 9) w' := by
  have HIm := Lib.hid hI
  have HSz : Hid (szI I ≤ 20000000000) := hs
  have HLn : Hid (∀ k, k ≤ 9 → (stN I k).1.length ≤ 180000036864) := fun k hk => by
    have h1 := stN_le I k
    have h2 : k * (szI I + 4096) ≤ 9 * (20000000000 + 4096) := Nat.mul_le_mul hk (by omega)
    omega
  have HEn1 := Lib.hid (enters_of Tryz.func57 (by kernel_rfl) rfl)
  have HEn2 := Lib.hid (enters_of Tryz.func56 (by kernel_rfl) rfl)
  have HZ0 : Hid ((w.alloc (.cells nil9 123)).heap[w.heap.size]? = some (.cells nil9 123 (0, 0))) := heap_alloc_new w _
  have HZ1 : Hid (((w.alloc (.cells nil9 123)).setRow w.heap.size (fun9 kb)).heap[w.heap.size]? = some (.cells (fun9 kb) 123 (0, 0))) := setRow_heap _ _ _ _ _ _ HZ0.out
  have H0 : Hid (Sx B kb im o (enN I 0) w0 (stN I 0) ((w.alloc (.cells nil9 123)).setRow w.heap.size (fun9 kb))) := Lib.hid (St.below h (((Below.refl _ _).alloc (Nat.le_refl _) _).trans (below_setRow _ _ _ _ (Nat.le_refl _))))
  clear h hI hs
  go_enter Tryz.func24, Tryz.ntmps24
  go_wp2_with (first | (refine wpList_store_arr rfl 123 (.tmp 2) (.tmp 24) rfl (b := w.heap.size) (Z := nil9) (g := fun9 kb) rfl rfl rfl HZ0.out (info_9 kb) rfl (fun9_one kb) ?_) | (refine wpList_load_arr rfl 123 (.tmp 2) rfl (b := w.heap.size) (g := fun9 kb) rfl HZ1.out Tryz.underlying123 rfl (info_9 kb) ?_))
  clear HZ0 HZ1
  go_loopw [26] (fun iv wr => ∃ i : Nat, i ≤ 9 ∧ iv = .int .i64 (i : Int) ∧ Hid (Sx B kb im o (enN I i) w0 (stN I i) wr)) (fun iv _ => 9 - (intOf iv).toNat)
  case atStart => exact ⟨0, by decide, rfl, H0⟩
  case round =>
    clear H0
    obtain ⟨i, hi, rfl, HI⟩ := hrel
    rcases (by omega : i = 9 ∨ i = 0 ∨ i = 1 ∨ i = 2 ∨ i = 3 ∨ i = 4 ∨ i = 5 ∨ i = 6 ∨ i = 7 ∨ i = 8) with rfl | rfl | rfl | rfl | rfl | rfl | rfl | rfl | rfl | rfl
    · go_wp2_with fail
      go_end0
      exact ⟨rfl, HI.out⟩
    · -- part 0
      obtain ⟨c12, c13, c59⟩ := HI.out.cells
      have HD : Hid (Sx B kb im o (enN I 0) w0 (stN I 0) wr.drew) := St.below HI.out ⟨rfl, rfl, rfl, Nat.le_refl _, fun _ _ => rfl⟩
      have hL := HLn.out 0 (by decide)
      obtain ⟨N, hN⟩ : ∃ N, (stN I 0).1.length = N := ⟨_, rfl⟩
      have hu := beg_le 0 N
      obtain ⟨u, hu9⟩ : ∃ u, begN 0 N = u := ⟨_, rfl⟩
      rw [hN] at hL c13
      rw [hu9] at hu
      have HC0 : Hid (wr.drew.cell? ⟨kb, 13, none⟩ = some (.int .i64 (N : Int))) := hN ▸ HD.out.cells.2.1
      have HU : Hid (∀ W, Calls Tryz.prog 57 #[.int .i64 0, .int .i64 (N : Int)] W fun e w' => ∃ v, e = .returned v ∧ v = .int .i64 (u : Int) ∧ w' = W) := fun W => (beginX (p := 0) (a := N) (by omega) W).mono (fun e w' h => ⟨_, h.1, by rw [hu9], h.2⟩)
      have hsub : IntKind.i64.wrap ((u : Int) - (N : Int)) = ((u - N : Nat) : Int) := by rw [IntKind.wrap_i64]; omega
      have HZ : Hid (Calls Tryz.prog 56 #[.pointer (some ⟨kb, 0, none⟩), .int .i64 ((u - N : Nat) : Int)] wr.drew fun e w' => ∃ v, e = .returned v ∧ v = .tuple #[] ∧ Sx B kb im o (enN I 0) w0 (zerosS (u - N) (stN I 0)) w') := (zerosX HD.out (c := u - N) (by rw [hN]; omega)).mono (fun e w' h => ⟨_, h.1, rfl, h.2⟩)
      have HZl : Hid ((zerosS (u - N) (stN I 0)).1.length = u) := show _ = _ by rw [zeros_len, hN]; omega
      have HSe : Hid (secS I 0 (zerosS (u - N) (stN I 0)) = stN I 1) := show secS I 0 (zerosS (u - N) (stN I 0)) = secS I 0 (zerosS (begN 0 (stN I 0).1.length - (stN I 0).1.length) (stN I 0)) by rw [hN, hu9]
      have HFn : Hid (fstN I 0 = u) := show _ = _ by rw [fstN, hN, hu9]
      have hx9 : ∀ W, (Instr.index 123 (.agg (fun9 kb)) (.int .i64 0)).run Tryz.prog W = .ok (.func (.func 47) #[.pointer (some ⟨kb, 0, none⟩)] #[]) W := fun9_at0 kb
      clear HD hN hu9 HI
      go_wp2_with fail
      refine regionJ (fun w' => w'.cell? ⟨kb, 13, none⟩ = some (.int .i64 (N : Int))) 12 (by kernel_rfl) (by kernel_rfl) HC0.out (fun hS hA => ?_)
      refine takeJ (i := 0) (d := 30) (Value.pointer (some ⟨kb, 0, none⟩)) hA (by decide) rfl rfl (by kernel_rfl) (by kernel_rfl) (by kernel_rfl) (by kernel_rfl) (by kernel_rfl) (fun _ _ _ h => h) hS (by rfl) (fun wz9 hz => ?_) ?_
      · (try dsimp only at hz); go_simp
      simp only [Act.put, List.setIfInBounds_toArray, List.set_cons_zero, List.set_cons_succ]
      refine takeJ (i := 1) (d := 31) (Value.int .i64 0) hA (by decide) rfl rfl (by kernel_rfl) (by kernel_rfl) (by kernel_rfl) (by kernel_rfl) (by kernel_rfl) (fun _ _ _ h => h) hS (by rfl) (fun wz9 hz => ?_) ?_
      · (try dsimp only at hz); go_simp
      simp only [Act.put, List.setIfInBounds_toArray, List.set_cons_zero, List.set_cons_succ]
      refine takeJ (i := 2) (d := 32) (Value.pointer (some ⟨kb, 0, none⟩)) hA (by decide) rfl rfl (by kernel_rfl) (by kernel_rfl) (by kernel_rfl) (by kernel_rfl) (by kernel_rfl) (fun _ _ _ h => h) hS (by rfl) (fun wz9 hz => ?_) ?_
      · (try dsimp only at hz); go_simp
      simp only [Act.put, List.setIfInBounds_toArray, List.set_cons_zero, List.set_cons_succ]
      refine takeJ (i := 3) (d := 33) (Value.pointer (some ⟨kb, 0, none⟩)) hA (by decide) rfl rfl (by kernel_rfl) (by kernel_rfl) (by kernel_rfl) (by kernel_rfl) (by kernel_rfl) (fun _ _ _ h => h) hS (by rfl) (fun wz9 hz => ?_) ?_
      · (try dsimp only at hz); go_simp
      simp only [Act.put, List.setIfInBounds_toArray, List.set_cons_zero, List.set_cons_succ]
      refine takeJ (i := 4) (d := 34) (Value.pointer (some ⟨kb, 13, none⟩)) hA (by decide) rfl rfl (by kernel_rfl) (by kernel_rfl) (by kernel_rfl) (by kernel_rfl) (by kernel_rfl) (fun _ _ _ h => h) hS (by rfl) (fun wz9 hz => ?_) ?_
      · (try dsimp only at hz); go_simp
      simp only [Act.put, List.setIfInBounds_toArray, List.set_cons_zero, List.set_cons_succ]
      refine takeJ (i := 5) (d := 35) (Value.int .i64 (N : Int)) hA (by decide) rfl rfl (by kernel_rfl) (by kernel_rfl) (by kernel_rfl) (by kernel_rfl) (by kernel_rfl) (fun _ _ _ h => h) hS (by rfl) (fun wz9 hz => ?_) ?_
      · (try dsimp only at hz); go_simp
      simp only [Act.put, List.setIfInBounds_toArray, List.set_cons_zero, List.set_cons_succ]
      refine takeJ (i := 7) (d := 37) (Value.pointer (some ⟨kb, 0, none⟩)) hA (by decide) rfl rfl (by kernel_rfl) (by kernel_rfl) (by kernel_rfl) (by kernel_rfl) (by kernel_rfl) (fun _ _ _ h => h) hS (by rfl) (fun wz9 hz => ?_) ?_
      · (try dsimp only at hz); go_simp
      simp only [Act.put, List.setIfInBounds_toArray, List.set_cons_zero, List.set_cons_succ]
      refine takeJ (i := 8) (d := 38) (Value.pointer (some ⟨kb, 0, none⟩)) hA (by decide) rfl rfl (by kernel_rfl) (by kernel_rfl) (by kernel_rfl) (by kernel_rfl) (by kernel_rfl) (fun _ _ _ h => h) hS (by rfl) (fun wz9 hz => ?_) ?_
      · (try dsimp only at hz); go_simp
      simp only [Act.put, List.setIfInBounds_toArray, List.set_cons_zero, List.set_cons_succ]
      refine takeJ (i := 9) (d := 39) (Value.pointer (some ⟨kb, 13, none⟩)) hA (by decide) rfl rfl (by kernel_rfl) (by kernel_rfl) (by kernel_rfl) (by kernel_rfl) (by kernel_rfl) (fun _ _ _ h => h) hS (by rfl) (fun wz9 hz => ?_) ?_
      · (try dsimp only at hz); go_simp
      simp only [Act.put, List.setIfInBounds_toArray, List.set_cons_zero, List.set_cons_succ]
      refine takeJ (i := 10) (d := 40) (Value.int .i64 (N : Int)) hA (by decide) rfl rfl (by kernel_rfl) (by kernel_rfl) (by kernel_rfl) (by kernel_rfl) (by kernel_rfl) (fun _ _ _ h => h) hS (by rfl) (fun wz9 hz => ?_) ?_
      · (try dsimp only at hz); go_simp
      simp only [Act.put, List.setIfInBounds_toArray, List.set_cons_zero, List.set_cons_succ]
      refine callJ (i := 6) (d := 36) (by kernel_rfl) rfl rfl (by rfl) 57 _ _ rfl HEn1.out _ (by simp [Act.eval]) (HU.out _) (fun v w' hR _ _ => ?_) (fun v x1 hR => ?_)
      · obtain ⟨_, rfl⟩ := hR
        exact hS
      obtain ⟨rfl, rfl⟩ := hR
      simp only [Act.put, List.setIfInBounds_toArray, List.set_cons_zero, List.set_cons_succ]
      refine takeJ (i := 11) (d := 41) (Value.int .i64 ((u - N : Nat) : Int)) hA (by decide) rfl rfl (by kernel_rfl) (by kernel_rfl) (by kernel_rfl) (by kernel_rfl) (by kernel_rfl) (fun _ _ _ h => h) hS (by rfl) (fun wz hz => ?_) ?_
      · clear hz; go_simp
      simp only [Act.put, List.setIfInBounds_toArray, List.set_cons_zero, List.set_cons_succ]
      refine callJ (i := 12) (d := 42) (by kernel_rfl) rfl rfl (by rfl) 56 _ _ rfl HEn2.out _ (by simp [Act.eval]) HZ.out (fun v w' hR h _ => absurd rfl h) (fun v x2 hR => ?_)
      obtain ⟨rfl, h9⟩ := hR
      obtain ⟨d12, d13, d59⟩ := St.cells h9
      rw [HZl.out] at d13
      have HSc := Lib.hid (sec0X HIm.out h9 (by rw [HZl.out]; have := HSz.out; omega))
      rw [HSe.out] at HSc
      clear h9 HZ hS HZl HSe
      simp only [Act.put, List.setIfInBounds_toArray, List.set_cons_zero, List.set_cons_succ]
      refine doneJ (by kernel_rfl) ?_ _
      go_wp2_with fail
      refine HSc.out.mono ?_
      rintro e w5 ⟨rfl, h5⟩
      have hL5 := HLn.out 1 (by decide)
      obtain ⟨M, hM⟩ : ∃ M, (stN I 1).1.length = M := ⟨_, rfl⟩
      have HMz : Hid ((stN I 1).1.length = M) := hM
      have HMu : Hid (u ≤ M) := show _ ≤ _ by
        have h9 : fstN I 0 ≤ (stN I 1).1.length := fst_le I 0 (by decide)
        rw [hM, HFn.out] at h9
        exact h9
      have hMu := HMu.out
      rw [hM] at hL5
      obtain ⟨k12, k13, k59⟩ := St.cells h5
      rw [hM] at k13
      have hs5 : IntKind.i64.wrap ((M : Int) - (u : Int)) = ((M - u : Nat) : Int) := by rw [IntKind.wrap_i64]; omega
      have e0 : w5.cell? ⟨kb, 14, none⟩ = some (.int .i64 0) := (St.cell h5 14).trans ((lyC_en (i := 0) h5.him h5.hen (by decide)).trans rfl)
      have z0 := St.free h5 14
      have e1 : w5.cell? ⟨kb, 15, none⟩ = some (.int .i64 0) := (St.cell h5 15).trans ((lyC_en (i := 1) h5.him h5.hen (by decide)).trans rfl)
      have z1 := St.free h5 15
      have e2 : w5.cell? ⟨kb, 16, none⟩ = some (.int .i64 0) := (St.cell h5 16).trans ((lyC_en (i := 2) h5.him h5.hen (by decide)).trans rfl)
      have z2 := St.free h5 16
      have e3 : w5.cell? ⟨kb, 17, none⟩ = some (.int .i64 0) := (St.cell h5 17).trans ((lyC_en (i := 3) h5.him h5.hen (by decide)).trans rfl)
      have z3 := St.free h5 17
      have e4 : w5.cell? ⟨kb, 18, none⟩ = some (.int .u32 0) := (St.cell h5 18).trans ((lyC_en (i := 4) h5.him h5.hen (by decide)).trans rfl)
      have z4 := St.free h5 18
      have hd5 : St B kb im o (enN I 0) w0 (stN I 1).1.length (stN I 1).1 (stN I 1).2 w5.drew := St.below h5 ⟨rfl, rfl, rfl, Nat.le_refl _, fun _ _ => rfl⟩
      have q0 := St.set hd5 (lyC_setEn (i := 0) (im := im) (o := o) hd5.him hd5.hen (by decide) (.int .i64 0)) (by simp [enN_len])
      have q1 := St.set q0 (lyC_setEn (i := 1) (im := im) (o := o) q0.him q0.hen (by decide) (.int .i64 0)) (by simp [enN_len])
      have q2 := St.set q1 (lyC_setEn (i := 2) (im := im) (o := o) q1.him q1.hen (by decide) (.int .i64 (u : Int))) (by simp [enN_len])
      have q3 := St.set q2 (lyC_setEn (i := 3) (im := im) (o := o) q2.him q2.hen (by decide) (.int .i64 ((M - u : Nat) : Int))) (by simp [enN_len])
      have q4 := St.set q3 (lyC_setEn (i := 4) (im := im) (o := o) q3.him q3.hen (by decide) (.int .u32 0)) (by simp [enN_len])
      have HQ : Hid (St B kb im o _ w0 (stN I 1).1.length (stN I 1).1 (stN I 1).2 (w5.drew.setCells kb 14 [.int .i64 0, .int .i64 0, .int .i64 (u : Int), .int .i64 ((M - u : Nat) : Int), .int .u32 0])) := Lib.hid q4
      have k13d : w5.drew.cell? ⟨kb, 13, none⟩ = some (.int .i64 (M : Int)) := k13
      have HTh : Hid (w5.drew.there kb 14 5) := fun j hj => by
        rcases (by omega : j = 0 ∨ j = 1 ∨ j = 2 ∨ j = 3 ∨ j = 4) with rfl | rfl | rfl | rfl | rfl
        · exact ⟨by show (w5.cell? _).isSome = true; rw [e0]; rfl, z0⟩
        · exact ⟨by show (w5.cell? _).isSome = true; rw [e1]; rfl, z1⟩
        · exact ⟨by show (w5.cell? _).isSome = true; rw [e2]; rfl, z2⟩
        · exact ⟨by show (w5.cell? _).isSome = true; rw [e3]; rfl, z3⟩
        · exact ⟨by show (w5.cell? _).isSome = true; rw [e4]; rfl, z4⟩
      have HEe : Hid ((((((enN I 0).set 0 (.int .i64 0)).set 1 (.int .i64 0)).set 2 (.int .i64 (u : Int))).set 3 (.int .i64 ((M - u : Nat) : Int))).set 4 (.int .u32 0) = enN I 1) := show _ = _ by
        have hl : lenN I 0 = M - u := by show (stN I 1).1.length - fstN I 0 = _; rw [hM, HFn.out]
        rw [← hl, ← HFn.out]
        rfl
      rw [HEe.out] at HQ
      have HK13 : Hid ((w5.drew.setCells kb 14 [.int .i64 0, .int .i64 0, .int .i64 (u : Int), .int .i64 ((M - u : Nat) : Int), .int .u32 0]).cell? ⟨kb, 13, none⟩ = some (.int .i64 (M : Int))) := by
        have := HQ.out.cells.2.1
        rw [hM] at this
        exact Lib.hid this
      clear q0 q1 q2 q3 q4 h5 hd5 HEe hM
      go_wp2_with fail
      refine wp_region_held_drew (S := fun W => W.cell? ⟨kb, 13, none⟩ = some (.int .i64 (M : Int))) (by kernel_rfl) k13d (fun hHeld => ?_)
      simp only [List.size_toArray, List.length_cons, List.length_nil]
      refine takeH (i := 0) (d := 49) (v := Value.pointer (some ⟨kb, 0, none⟩)) rfl rfl (by kernel_rfl) (by kernel_rfl) (by kernel_rfl) (fun _ _ _ h => h) (Or.inl ⟨by kernel_rfl, by intro w hSw; (try dsimp only at hSw); go_simp⟩) hHeld ?_
      simp only [Act.put, List.setIfInBounds_toArray, List.set_cons_zero, List.set_cons_succ]
      refine takeH (i := 1) (d := 50) (v := Value.int .i64 0) rfl rfl (by kernel_rfl) (by kernel_rfl) (by kernel_rfl) (fun _ _ _ h => h) (Or.inl ⟨by kernel_rfl, by intro w hSw; (try dsimp only at hSw); go_simp⟩) hHeld ?_
      simp only [Act.put, List.setIfInBounds_toArray, List.set_cons_zero, List.set_cons_succ]
      refine takeH (i := 2) (d := 51) (v := Value.int .i64 0) rfl rfl (by kernel_rfl) (by kernel_rfl) (by kernel_rfl) (fun _ _ _ h => h) (Or.inl ⟨by kernel_rfl, by intro w hSw; (try dsimp only at hSw); go_simp⟩) hHeld ?_
      simp only [Act.put, List.setIfInBounds_toArray, List.set_cons_zero, List.set_cons_succ]
      refine takeH (i := 3) (d := 52) (v := Value.int .i64 (u : Int)) rfl rfl (by kernel_rfl) (by kernel_rfl) (by kernel_rfl) (fun _ _ _ h => h) (Or.inl ⟨by kernel_rfl, by intro w hSw; (try dsimp only at hSw); go_simp⟩) hHeld ?_
      simp only [Act.put, List.setIfInBounds_toArray, List.set_cons_zero, List.set_cons_succ]
      refine takeH (i := 4) (d := 53) (v := Value.pointer (some ⟨kb, 0, none⟩)) rfl rfl (by kernel_rfl) (by kernel_rfl) (by kernel_rfl) (fun _ _ _ h => h) (Or.inl ⟨by kernel_rfl, by intro w hSw; (try dsimp only at hSw); go_simp⟩) hHeld ?_
      simp only [Act.put, List.setIfInBounds_toArray, List.set_cons_zero, List.set_cons_succ]
      refine takeH (i := 5) (d := 54) (v := Value.pointer (some ⟨kb, 0, none⟩)) rfl rfl (by kernel_rfl) (by kernel_rfl) (by kernel_rfl) (fun _ _ _ h => h) (Or.inl ⟨by kernel_rfl, by intro w hSw; (try dsimp only at hSw); go_simp⟩) hHeld ?_
      simp only [Act.put, List.setIfInBounds_toArray, List.set_cons_zero, List.set_cons_succ]
      refine takeH (i := 6) (d := 55) (v := Value.pointer (some ⟨kb, 13, none⟩)) rfl rfl (by kernel_rfl) (by kernel_rfl) (by kernel_rfl) (fun _ _ _ h => h) (Or.inl ⟨by kernel_rfl, by intro w hSw; (try dsimp only at hSw); go_simp⟩) hHeld ?_
      simp only [Act.put, List.setIfInBounds_toArray, List.set_cons_zero, List.set_cons_succ]
      refine takeH (i := 7) (d := 56) (v := Value.int .i64 (M : Int)) rfl rfl (by kernel_rfl) (by kernel_rfl) (by kernel_rfl) (fun _ _ _ h => h) (Or.inl ⟨by kernel_rfl, by intro w hSw; (try dsimp only at hSw); go_simp⟩) hHeld ?_
      simp only [Act.put, List.setIfInBounds_toArray, List.set_cons_zero, List.set_cons_succ]
      refine takeH (i := 8) (d := 57) (v := Value.int .i64 (u : Int)) rfl rfl (by kernel_rfl) (by kernel_rfl) (by kernel_rfl) (fun _ _ _ h => h) (Or.inl ⟨by kernel_rfl, by intro w hSw; (try dsimp only at hSw); go_simp⟩) hHeld ?_
      simp only [Act.put, List.setIfInBounds_toArray, List.set_cons_zero, List.set_cons_succ]
      refine takeH (i := 9) (d := 58) (v := Value.int .i64 ((M - u : Nat) : Int)) rfl rfl (by kernel_rfl) (by kernel_rfl) (by kernel_rfl) (fun _ _ _ h => h) (Or.inl ⟨by kernel_rfl, by intro w hSw; (try dsimp only at hSw); go_simp⟩) hHeld ?_
      simp only [Act.put, List.setIfInBounds_toArray, List.set_cons_zero, List.set_cons_succ]
      refine takeH (i := 10) (d := 59) (v := Value.agg #[.int .i64 0, .int .i64 0, .int .i64 (u : Int), .int .i64 ((M - u : Nat) : Int), .int .u32 0]) rfl rfl (by kernel_rfl) (by kernel_rfl) (by kernel_rfl) (fun _ _ _ h => h) (Or.inl ⟨by kernel_rfl, by intro w hSw; (try dsimp only at hSw); go_simp⟩) hHeld ?_
      simp only [Act.put, List.setIfInBounds_toArray, List.set_cons_zero, List.set_cons_succ]
      refine takeH (i := 11) (d := 60) (v := Value.pointer (some ⟨kb, 0, none⟩)) rfl rfl (by kernel_rfl) (by kernel_rfl) (by kernel_rfl) (fun _ _ _ h => h) (Or.inl ⟨by kernel_rfl, by intro w hSw; (try dsimp only at hSw); go_simp⟩) hHeld ?_
      simp only [Act.put, List.setIfInBounds_toArray, List.set_cons_zero, List.set_cons_succ]
      refine takeH (i := 12) (d := 61) (v := Value.pointer (some ⟨kb, 14, none⟩)) rfl rfl (by kernel_rfl) (by kernel_rfl) (by kernel_rfl) (fun _ _ _ h => h) (Or.inl ⟨by kernel_rfl, by intro w hSw; (try dsimp only at hSw); go_simp⟩) hHeld ?_
      simp only [Act.put, List.setIfInBounds_toArray, List.set_cons_zero, List.set_cons_succ]
      refine takeH (i := 13) (d := 62) (v := Value.pointer (some ⟨kb, 14, none⟩)) rfl rfl (by kernel_rfl) (by kernel_rfl) (by kernel_rfl) (fun _ _ _ h => h) (Or.inl ⟨by kernel_rfl, by intro w hSw; (try dsimp only at hSw); go_simp⟩) hHeld ?_
      simp only [Act.put, List.setIfInBounds_toArray, List.set_cons_zero, List.set_cons_succ]
      refine wpAnyH_ready (rs := [14]) (by kernel_rfl) (by simp) ?_
      refine readySkip (i := 14) (w' := w5.drew.setCells kb 14 [.int .i64 0, .int .i64 0, .int .i64 (u : Int), .int .i64 ((M - u : Nat) : Int), .int .u32 0]) rfl rfl (by kernel_rfl) (store_exec 88 (x := .tmp 62) (y := .tmp 59) rfl (c := #[.int .i64 0, .int .i64 0, .int .i64 (u : Int), .int .i64 ((M - u : Nat) : Int), .int .u32 0]) (by simp [Act.eval]) (by simp [Act.eval]) HTh.out info_en rfl) HK13.out ?_ AllReadyH.nil
      clear hHeld
      refine wpAnyH_done (by kernel_rfl) ?_ _
      go_wp2_with fail
      go_roundw
      case rel => exact ⟨1, by decide, rfl, HQ⟩
      case measure => simp [intOf]
    · -- part 1
      obtain ⟨c12, c13, c59⟩ := HI.out.cells
      have HD : Hid (Sx B kb im o (enN I 1) w0 (stN I 1) wr.drew) := St.below HI.out ⟨rfl, rfl, rfl, Nat.le_refl _, fun _ _ => rfl⟩
      have hL := HLn.out 1 (by decide)
      obtain ⟨N, hN⟩ : ∃ N, (stN I 1).1.length = N := ⟨_, rfl⟩
      have hu := beg_le 1 N
      obtain ⟨u, hu9⟩ : ∃ u, begN 1 N = u := ⟨_, rfl⟩
      rw [hN] at hL c13
      rw [hu9] at hu
      have HC0 : Hid (wr.drew.cell? ⟨kb, 13, none⟩ = some (.int .i64 (N : Int))) := hN ▸ HD.out.cells.2.1
      have HU : Hid (∀ W, Calls Tryz.prog 57 #[.int .i64 1, .int .i64 (N : Int)] W fun e w' => ∃ v, e = .returned v ∧ v = .int .i64 (u : Int) ∧ w' = W) := fun W => (beginX (p := 1) (a := N) (by omega) W).mono (fun e w' h => ⟨_, h.1, by rw [hu9], h.2⟩)
      have hsub : IntKind.i64.wrap ((u : Int) - (N : Int)) = ((u - N : Nat) : Int) := by rw [IntKind.wrap_i64]; omega
      have HZ : Hid (Calls Tryz.prog 56 #[.pointer (some ⟨kb, 0, none⟩), .int .i64 ((u - N : Nat) : Int)] wr.drew fun e w' => ∃ v, e = .returned v ∧ v = .tuple #[] ∧ Sx B kb im o (enN I 1) w0 (zerosS (u - N) (stN I 1)) w') := (zerosX HD.out (c := u - N) (by rw [hN]; omega)).mono (fun e w' h => ⟨_, h.1, rfl, h.2⟩)
      have HZl : Hid ((zerosS (u - N) (stN I 1)).1.length = u) := show _ = _ by rw [zeros_len, hN]; omega
      have HSe : Hid (secS I 1 (zerosS (u - N) (stN I 1)) = stN I 2) := show secS I 1 (zerosS (u - N) (stN I 1)) = secS I 1 (zerosS (begN 1 (stN I 1).1.length - (stN I 1).1.length) (stN I 1)) by rw [hN, hu9]
      have HFn : Hid (fstN I 1 = u) := show _ = _ by rw [fstN, hN, hu9]
      have hx9 : ∀ W, (Instr.index 123 (.agg (fun9 kb)) (.int .i64 1)).run Tryz.prog W = .ok (.func (.func 48) #[.pointer (some ⟨kb, 0, none⟩)] #[]) W := fun9_at1 kb
      clear HD hN hu9 HI
      go_wp2_with fail
      refine regionJ (fun w' => w'.cell? ⟨kb, 13, none⟩ = some (.int .i64 (N : Int))) 12 (by kernel_rfl) (by kernel_rfl) HC0.out (fun hS hA => ?_)
      refine takeJ (i := 0) (d := 30) (Value.pointer (some ⟨kb, 0, none⟩)) hA (by decide) rfl rfl (by kernel_rfl) (by kernel_rfl) (by kernel_rfl) (by kernel_rfl) (by kernel_rfl) (fun _ _ _ h => h) hS (by rfl) (fun wz9 hz => ?_) ?_
      · (try dsimp only at hz); go_simp
      simp only [Act.put, List.setIfInBounds_toArray, List.set_cons_zero, List.set_cons_succ]
      refine takeJ (i := 1) (d := 31) (Value.int .i64 1) hA (by decide) rfl rfl (by kernel_rfl) (by kernel_rfl) (by kernel_rfl) (by kernel_rfl) (by kernel_rfl) (fun _ _ _ h => h) hS (by rfl) (fun wz9 hz => ?_) ?_
      · (try dsimp only at hz); go_simp
      simp only [Act.put, List.setIfInBounds_toArray, List.set_cons_zero, List.set_cons_succ]
      refine takeJ (i := 2) (d := 32) (Value.pointer (some ⟨kb, 0, none⟩)) hA (by decide) rfl rfl (by kernel_rfl) (by kernel_rfl) (by kernel_rfl) (by kernel_rfl) (by kernel_rfl) (fun _ _ _ h => h) hS (by rfl) (fun wz9 hz => ?_) ?_
      · (try dsimp only at hz); go_simp
      simp only [Act.put, List.setIfInBounds_toArray, List.set_cons_zero, List.set_cons_succ]
      refine takeJ (i := 3) (d := 33) (Value.pointer (some ⟨kb, 0, none⟩)) hA (by decide) rfl rfl (by kernel_rfl) (by kernel_rfl) (by kernel_rfl) (by kernel_rfl) (by kernel_rfl) (fun _ _ _ h => h) hS (by rfl) (fun wz9 hz => ?_) ?_
      · (try dsimp only at hz); go_simp
      simp only [Act.put, List.setIfInBounds_toArray, List.set_cons_zero, List.set_cons_succ]
      refine takeJ (i := 4) (d := 34) (Value.pointer (some ⟨kb, 13, none⟩)) hA (by decide) rfl rfl (by kernel_rfl) (by kernel_rfl) (by kernel_rfl) (by kernel_rfl) (by kernel_rfl) (fun _ _ _ h => h) hS (by rfl) (fun wz9 hz => ?_) ?_
      · (try dsimp only at hz); go_simp
      simp only [Act.put, List.setIfInBounds_toArray, List.set_cons_zero, List.set_cons_succ]
      refine takeJ (i := 5) (d := 35) (Value.int .i64 (N : Int)) hA (by decide) rfl rfl (by kernel_rfl) (by kernel_rfl) (by kernel_rfl) (by kernel_rfl) (by kernel_rfl) (fun _ _ _ h => h) hS (by rfl) (fun wz9 hz => ?_) ?_
      · (try dsimp only at hz); go_simp
      simp only [Act.put, List.setIfInBounds_toArray, List.set_cons_zero, List.set_cons_succ]
      refine takeJ (i := 7) (d := 37) (Value.pointer (some ⟨kb, 0, none⟩)) hA (by decide) rfl rfl (by kernel_rfl) (by kernel_rfl) (by kernel_rfl) (by kernel_rfl) (by kernel_rfl) (fun _ _ _ h => h) hS (by rfl) (fun wz9 hz => ?_) ?_
      · (try dsimp only at hz); go_simp
      simp only [Act.put, List.setIfInBounds_toArray, List.set_cons_zero, List.set_cons_succ]
      refine takeJ (i := 8) (d := 38) (Value.pointer (some ⟨kb, 0, none⟩)) hA (by decide) rfl rfl (by kernel_rfl) (by kernel_rfl) (by kernel_rfl) (by kernel_rfl) (by kernel_rfl) (fun _ _ _ h => h) hS (by rfl) (fun wz9 hz => ?_) ?_
      · (try dsimp only at hz); go_simp
      simp only [Act.put, List.setIfInBounds_toArray, List.set_cons_zero, List.set_cons_succ]
      refine takeJ (i := 9) (d := 39) (Value.pointer (some ⟨kb, 13, none⟩)) hA (by decide) rfl rfl (by kernel_rfl) (by kernel_rfl) (by kernel_rfl) (by kernel_rfl) (by kernel_rfl) (fun _ _ _ h => h) hS (by rfl) (fun wz9 hz => ?_) ?_
      · (try dsimp only at hz); go_simp
      simp only [Act.put, List.setIfInBounds_toArray, List.set_cons_zero, List.set_cons_succ]
      refine takeJ (i := 10) (d := 40) (Value.int .i64 (N : Int)) hA (by decide) rfl rfl (by kernel_rfl) (by kernel_rfl) (by kernel_rfl) (by kernel_rfl) (by kernel_rfl) (fun _ _ _ h => h) hS (by rfl) (fun wz9 hz => ?_) ?_
      · (try dsimp only at hz); go_simp
      simp only [Act.put, List.setIfInBounds_toArray, List.set_cons_zero, List.set_cons_succ]
      refine callJ (i := 6) (d := 36) (by kernel_rfl) rfl rfl (by rfl) 57 _ _ rfl HEn1.out _ (by simp [Act.eval]) (HU.out _) (fun v w' hR _ _ => ?_) (fun v x1 hR => ?_)
      · obtain ⟨_, rfl⟩ := hR
        exact hS
      obtain ⟨rfl, rfl⟩ := hR
      simp only [Act.put, List.setIfInBounds_toArray, List.set_cons_zero, List.set_cons_succ]
      refine takeJ (i := 11) (d := 41) (Value.int .i64 ((u - N : Nat) : Int)) hA (by decide) rfl rfl (by kernel_rfl) (by kernel_rfl) (by kernel_rfl) (by kernel_rfl) (by kernel_rfl) (fun _ _ _ h => h) hS (by rfl) (fun wz hz => ?_) ?_
      · clear hz; go_simp
      simp only [Act.put, List.setIfInBounds_toArray, List.set_cons_zero, List.set_cons_succ]
      refine callJ (i := 12) (d := 42) (by kernel_rfl) rfl rfl (by rfl) 56 _ _ rfl HEn2.out _ (by simp [Act.eval]) HZ.out (fun v w' hR h _ => absurd rfl h) (fun v x2 hR => ?_)
      obtain ⟨rfl, h9⟩ := hR
      obtain ⟨d12, d13, d59⟩ := St.cells h9
      rw [HZl.out] at d13
      have HSc := Lib.hid (sec1X HIm.out h9 (by rw [HZl.out]; have := HSz.out; omega))
      rw [HSe.out] at HSc
      clear h9 HZ hS HZl HSe
      simp only [Act.put, List.setIfInBounds_toArray, List.set_cons_zero, List.set_cons_succ]
      refine doneJ (by kernel_rfl) ?_ _
      go_wp2_with fail
      refine HSc.out.mono ?_
      rintro e w5 ⟨rfl, h5⟩
      have hL5 := HLn.out 2 (by decide)
      obtain ⟨M, hM⟩ : ∃ M, (stN I 2).1.length = M := ⟨_, rfl⟩
      have HMz : Hid ((stN I 2).1.length = M) := hM
      have HMu : Hid (u ≤ M) := show _ ≤ _ by
        have h9 : fstN I 1 ≤ (stN I 2).1.length := fst_le I 1 (by decide)
        rw [hM, HFn.out] at h9
        exact h9
      have hMu := HMu.out
      rw [hM] at hL5
      obtain ⟨k12, k13, k59⟩ := St.cells h5
      rw [hM] at k13
      have hs5 : IntKind.i64.wrap ((M : Int) - (u : Int)) = ((M - u : Nat) : Int) := by rw [IntKind.wrap_i64]; omega
      have e0 : w5.cell? ⟨kb, 19, none⟩ = some (.int .i64 0) := (St.cell h5 19).trans ((lyC_en (i := 5) h5.him h5.hen (by decide)).trans rfl)
      have z0 := St.free h5 19
      have e1 : w5.cell? ⟨kb, 20, none⟩ = some (.int .i64 0) := (St.cell h5 20).trans ((lyC_en (i := 6) h5.him h5.hen (by decide)).trans rfl)
      have z1 := St.free h5 20
      have e2 : w5.cell? ⟨kb, 21, none⟩ = some (.int .i64 0) := (St.cell h5 21).trans ((lyC_en (i := 7) h5.him h5.hen (by decide)).trans rfl)
      have z2 := St.free h5 21
      have e3 : w5.cell? ⟨kb, 22, none⟩ = some (.int .i64 0) := (St.cell h5 22).trans ((lyC_en (i := 8) h5.him h5.hen (by decide)).trans rfl)
      have z3 := St.free h5 22
      have e4 : w5.cell? ⟨kb, 23, none⟩ = some (.int .u32 0) := (St.cell h5 23).trans ((lyC_en (i := 9) h5.him h5.hen (by decide)).trans rfl)
      have z4 := St.free h5 23
      have hd5 : St B kb im o (enN I 1) w0 (stN I 2).1.length (stN I 2).1 (stN I 2).2 w5.drew := St.below h5 ⟨rfl, rfl, rfl, Nat.le_refl _, fun _ _ => rfl⟩
      have q0 := St.set hd5 (lyC_setEn (i := 5) (im := im) (o := o) hd5.him hd5.hen (by decide) (.int .i64 1)) (by simp [enN_len])
      have q1 := St.set q0 (lyC_setEn (i := 6) (im := im) (o := o) q0.him q0.hen (by decide) (.int .i64 0)) (by simp [enN_len])
      have q2 := St.set q1 (lyC_setEn (i := 7) (im := im) (o := o) q1.him q1.hen (by decide) (.int .i64 (u : Int))) (by simp [enN_len])
      have q3 := St.set q2 (lyC_setEn (i := 8) (im := im) (o := o) q2.him q2.hen (by decide) (.int .i64 ((M - u : Nat) : Int))) (by simp [enN_len])
      have q4 := St.set q3 (lyC_setEn (i := 9) (im := im) (o := o) q3.him q3.hen (by decide) (.int .u32 0)) (by simp [enN_len])
      have HQ : Hid (St B kb im o _ w0 (stN I 2).1.length (stN I 2).1 (stN I 2).2 (w5.drew.setCells kb 19 [.int .i64 1, .int .i64 0, .int .i64 (u : Int), .int .i64 ((M - u : Nat) : Int), .int .u32 0])) := Lib.hid q4
      have k13d : w5.drew.cell? ⟨kb, 13, none⟩ = some (.int .i64 (M : Int)) := k13
      have HTh : Hid (w5.drew.there kb 19 5) := fun j hj => by
        rcases (by omega : j = 0 ∨ j = 1 ∨ j = 2 ∨ j = 3 ∨ j = 4) with rfl | rfl | rfl | rfl | rfl
        · exact ⟨by show (w5.cell? _).isSome = true; rw [e0]; rfl, z0⟩
        · exact ⟨by show (w5.cell? _).isSome = true; rw [e1]; rfl, z1⟩
        · exact ⟨by show (w5.cell? _).isSome = true; rw [e2]; rfl, z2⟩
        · exact ⟨by show (w5.cell? _).isSome = true; rw [e3]; rfl, z3⟩
        · exact ⟨by show (w5.cell? _).isSome = true; rw [e4]; rfl, z4⟩
      have HEe : Hid ((((((enN I 1).set 5 (.int .i64 1)).set 6 (.int .i64 0)).set 7 (.int .i64 (u : Int))).set 8 (.int .i64 ((M - u : Nat) : Int))).set 9 (.int .u32 0) = enN I 2) := show _ = _ by
        have hl : lenN I 1 = M - u := by show (stN I 2).1.length - fstN I 1 = _; rw [hM, HFn.out]
        rw [← hl, ← HFn.out]
        rfl
      rw [HEe.out] at HQ
      have HK13 : Hid ((w5.drew.setCells kb 19 [.int .i64 1, .int .i64 0, .int .i64 (u : Int), .int .i64 ((M - u : Nat) : Int), .int .u32 0]).cell? ⟨kb, 13, none⟩ = some (.int .i64 (M : Int))) := by
        have := HQ.out.cells.2.1
        rw [hM] at this
        exact Lib.hid this
      clear q0 q1 q2 q3 q4 h5 hd5 HEe hM
      go_wp2_with fail
      refine wp_region_held_drew (S := fun W => W.cell? ⟨kb, 13, none⟩ = some (.int .i64 (M : Int))) (by kernel_rfl) k13d (fun hHeld => ?_)
      simp only [List.size_toArray, List.length_cons, List.length_nil]
      refine takeH (i := 0) (d := 49) (v := Value.pointer (some ⟨kb, 0, none⟩)) rfl rfl (by kernel_rfl) (by kernel_rfl) (by kernel_rfl) (fun _ _ _ h => h) (Or.inl ⟨by kernel_rfl, by intro w hSw; (try dsimp only at hSw); go_simp⟩) hHeld ?_
      simp only [Act.put, List.setIfInBounds_toArray, List.set_cons_zero, List.set_cons_succ]
      refine takeH (i := 1) (d := 50) (v := Value.int .i64 1) rfl rfl (by kernel_rfl) (by kernel_rfl) (by kernel_rfl) (fun _ _ _ h => h) (Or.inl ⟨by kernel_rfl, by intro w hSw; (try dsimp only at hSw); go_simp⟩) hHeld ?_
      simp only [Act.put, List.setIfInBounds_toArray, List.set_cons_zero, List.set_cons_succ]
      refine takeH (i := 2) (d := 51) (v := Value.int .i64 1) rfl rfl (by kernel_rfl) (by kernel_rfl) (by kernel_rfl) (fun _ _ _ h => h) (Or.inl ⟨by kernel_rfl, by intro w hSw; (try dsimp only at hSw); go_simp⟩) hHeld ?_
      simp only [Act.put, List.setIfInBounds_toArray, List.set_cons_zero, List.set_cons_succ]
      refine takeH (i := 3) (d := 52) (v := Value.int .i64 (u : Int)) rfl rfl (by kernel_rfl) (by kernel_rfl) (by kernel_rfl) (fun _ _ _ h => h) (Or.inl ⟨by kernel_rfl, by intro w hSw; (try dsimp only at hSw); go_simp⟩) hHeld ?_
      simp only [Act.put, List.setIfInBounds_toArray, List.set_cons_zero, List.set_cons_succ]
      refine takeH (i := 4) (d := 53) (v := Value.pointer (some ⟨kb, 0, none⟩)) rfl rfl (by kernel_rfl) (by kernel_rfl) (by kernel_rfl) (fun _ _ _ h => h) (Or.inl ⟨by kernel_rfl, by intro w hSw; (try dsimp only at hSw); go_simp⟩) hHeld ?_
      simp only [Act.put, List.setIfInBounds_toArray, List.set_cons_zero, List.set_cons_succ]
      refine takeH (i := 5) (d := 54) (v := Value.pointer (some ⟨kb, 0, none⟩)) rfl rfl (by kernel_rfl) (by kernel_rfl) (by kernel_rfl) (fun _ _ _ h => h) (Or.inl ⟨by kernel_rfl, by intro w hSw; (try dsimp only at hSw); go_simp⟩) hHeld ?_
      simp only [Act.put, List.setIfInBounds_toArray, List.set_cons_zero, List.set_cons_succ]
      refine takeH (i := 6) (d := 55) (v := Value.pointer (some ⟨kb, 13, none⟩)) rfl rfl (by kernel_rfl) (by kernel_rfl) (by kernel_rfl) (fun _ _ _ h => h) (Or.inl ⟨by kernel_rfl, by intro w hSw; (try dsimp only at hSw); go_simp⟩) hHeld ?_
      simp only [Act.put, List.setIfInBounds_toArray, List.set_cons_zero, List.set_cons_succ]
      refine takeH (i := 7) (d := 56) (v := Value.int .i64 (M : Int)) rfl rfl (by kernel_rfl) (by kernel_rfl) (by kernel_rfl) (fun _ _ _ h => h) (Or.inl ⟨by kernel_rfl, by intro w hSw; (try dsimp only at hSw); go_simp⟩) hHeld ?_
      simp only [Act.put, List.setIfInBounds_toArray, List.set_cons_zero, List.set_cons_succ]
      refine takeH (i := 8) (d := 57) (v := Value.int .i64 (u : Int)) rfl rfl (by kernel_rfl) (by kernel_rfl) (by kernel_rfl) (fun _ _ _ h => h) (Or.inl ⟨by kernel_rfl, by intro w hSw; (try dsimp only at hSw); go_simp⟩) hHeld ?_
      simp only [Act.put, List.setIfInBounds_toArray, List.set_cons_zero, List.set_cons_succ]
      refine takeH (i := 9) (d := 58) (v := Value.int .i64 ((M - u : Nat) : Int)) rfl rfl (by kernel_rfl) (by kernel_rfl) (by kernel_rfl) (fun _ _ _ h => h) (Or.inl ⟨by kernel_rfl, by intro w hSw; (try dsimp only at hSw); go_simp⟩) hHeld ?_
      simp only [Act.put, List.setIfInBounds_toArray, List.set_cons_zero, List.set_cons_succ]
      refine takeH (i := 10) (d := 59) (v := Value.agg #[.int .i64 1, .int .i64 0, .int .i64 (u : Int), .int .i64 ((M - u : Nat) : Int), .int .u32 0]) rfl rfl (by kernel_rfl) (by kernel_rfl) (by kernel_rfl) (fun _ _ _ h => h) (Or.inl ⟨by kernel_rfl, by intro w hSw; (try dsimp only at hSw); go_simp⟩) hHeld ?_
      simp only [Act.put, List.setIfInBounds_toArray, List.set_cons_zero, List.set_cons_succ]
      refine takeH (i := 11) (d := 60) (v := Value.pointer (some ⟨kb, 0, none⟩)) rfl rfl (by kernel_rfl) (by kernel_rfl) (by kernel_rfl) (fun _ _ _ h => h) (Or.inl ⟨by kernel_rfl, by intro w hSw; (try dsimp only at hSw); go_simp⟩) hHeld ?_
      simp only [Act.put, List.setIfInBounds_toArray, List.set_cons_zero, List.set_cons_succ]
      refine takeH (i := 12) (d := 61) (v := Value.pointer (some ⟨kb, 14, none⟩)) rfl rfl (by kernel_rfl) (by kernel_rfl) (by kernel_rfl) (fun _ _ _ h => h) (Or.inl ⟨by kernel_rfl, by intro w hSw; (try dsimp only at hSw); go_simp⟩) hHeld ?_
      simp only [Act.put, List.setIfInBounds_toArray, List.set_cons_zero, List.set_cons_succ]
      refine takeH (i := 13) (d := 62) (v := Value.pointer (some ⟨kb, 19, none⟩)) rfl rfl (by kernel_rfl) (by kernel_rfl) (by kernel_rfl) (fun _ _ _ h => h) (Or.inl ⟨by kernel_rfl, by intro w hSw; (try dsimp only at hSw); go_simp⟩) hHeld ?_
      simp only [Act.put, List.setIfInBounds_toArray, List.set_cons_zero, List.set_cons_succ]
      refine wpAnyH_ready (rs := [14]) (by kernel_rfl) (by simp) ?_
      refine readySkip (i := 14) (w' := w5.drew.setCells kb 19 [.int .i64 1, .int .i64 0, .int .i64 (u : Int), .int .i64 ((M - u : Nat) : Int), .int .u32 0]) rfl rfl (by kernel_rfl) (store_exec 88 (x := .tmp 62) (y := .tmp 59) rfl (c := #[.int .i64 1, .int .i64 0, .int .i64 (u : Int), .int .i64 ((M - u : Nat) : Int), .int .u32 0]) (by simp [Act.eval]) (by simp [Act.eval]) HTh.out info_en rfl) HK13.out ?_ AllReadyH.nil
      clear hHeld
      refine wpAnyH_done (by kernel_rfl) ?_ _
      go_wp2_with fail
      go_roundw
      case rel => exact ⟨2, by decide, rfl, HQ⟩
      case measure => simp [intOf]
    · -- part 2
      obtain ⟨c12, c13, c59⟩ := HI.out.cells
      have HD : Hid (Sx B kb im o (enN I 2) w0 (stN I 2) wr.drew) := St.below HI.out ⟨rfl, rfl, rfl, Nat.le_refl _, fun _ _ => rfl⟩
      have hL := HLn.out 2 (by decide)
      obtain ⟨N, hN⟩ : ∃ N, (stN I 2).1.length = N := ⟨_, rfl⟩
      have hu := beg_le 2 N
      obtain ⟨u, hu9⟩ : ∃ u, begN 2 N = u := ⟨_, rfl⟩
      rw [hN] at hL c13
      rw [hu9] at hu
      have HC0 : Hid (wr.drew.cell? ⟨kb, 13, none⟩ = some (.int .i64 (N : Int))) := hN ▸ HD.out.cells.2.1
      have HU : Hid (∀ W, Calls Tryz.prog 57 #[.int .i64 2, .int .i64 (N : Int)] W fun e w' => ∃ v, e = .returned v ∧ v = .int .i64 (u : Int) ∧ w' = W) := fun W => (beginX (p := 2) (a := N) (by omega) W).mono (fun e w' h => ⟨_, h.1, by rw [hu9], h.2⟩)
      have hsub : IntKind.i64.wrap ((u : Int) - (N : Int)) = ((u - N : Nat) : Int) := by rw [IntKind.wrap_i64]; omega
      have HZ : Hid (Calls Tryz.prog 56 #[.pointer (some ⟨kb, 0, none⟩), .int .i64 ((u - N : Nat) : Int)] wr.drew fun e w' => ∃ v, e = .returned v ∧ v = .tuple #[] ∧ Sx B kb im o (enN I 2) w0 (zerosS (u - N) (stN I 2)) w') := (zerosX HD.out (c := u - N) (by rw [hN]; omega)).mono (fun e w' h => ⟨_, h.1, rfl, h.2⟩)
      have HZl : Hid ((zerosS (u - N) (stN I 2)).1.length = u) := show _ = _ by rw [zeros_len, hN]; omega
      have HSe : Hid (secS I 2 (zerosS (u - N) (stN I 2)) = stN I 3) := show secS I 2 (zerosS (u - N) (stN I 2)) = secS I 2 (zerosS (begN 2 (stN I 2).1.length - (stN I 2).1.length) (stN I 2)) by rw [hN, hu9]
      have HFn : Hid (fstN I 2 = u) := show _ = _ by rw [fstN, hN, hu9]
      have hx9 : ∀ W, (Instr.index 123 (.agg (fun9 kb)) (.int .i64 2)).run Tryz.prog W = .ok (.func (.func 49) #[.pointer (some ⟨kb, 0, none⟩)] #[]) W := fun9_at2 kb
      clear HD hN hu9 HI
      go_wp2_with fail
      refine regionJ (fun w' => w'.cell? ⟨kb, 13, none⟩ = some (.int .i64 (N : Int))) 12 (by kernel_rfl) (by kernel_rfl) HC0.out (fun hS hA => ?_)
      refine takeJ (i := 0) (d := 30) (Value.pointer (some ⟨kb, 0, none⟩)) hA (by decide) rfl rfl (by kernel_rfl) (by kernel_rfl) (by kernel_rfl) (by kernel_rfl) (by kernel_rfl) (fun _ _ _ h => h) hS (by rfl) (fun wz9 hz => ?_) ?_
      · (try dsimp only at hz); go_simp
      simp only [Act.put, List.setIfInBounds_toArray, List.set_cons_zero, List.set_cons_succ]
      refine takeJ (i := 1) (d := 31) (Value.int .i64 2) hA (by decide) rfl rfl (by kernel_rfl) (by kernel_rfl) (by kernel_rfl) (by kernel_rfl) (by kernel_rfl) (fun _ _ _ h => h) hS (by rfl) (fun wz9 hz => ?_) ?_
      · (try dsimp only at hz); go_simp
      simp only [Act.put, List.setIfInBounds_toArray, List.set_cons_zero, List.set_cons_succ]
      refine takeJ (i := 2) (d := 32) (Value.pointer (some ⟨kb, 0, none⟩)) hA (by decide) rfl rfl (by kernel_rfl) (by kernel_rfl) (by kernel_rfl) (by kernel_rfl) (by kernel_rfl) (fun _ _ _ h => h) hS (by rfl) (fun wz9 hz => ?_) ?_
      · (try dsimp only at hz); go_simp
      simp only [Act.put, List.setIfInBounds_toArray, List.set_cons_zero, List.set_cons_succ]
      refine takeJ (i := 3) (d := 33) (Value.pointer (some ⟨kb, 0, none⟩)) hA (by decide) rfl rfl (by kernel_rfl) (by kernel_rfl) (by kernel_rfl) (by kernel_rfl) (by kernel_rfl) (fun _ _ _ h => h) hS (by rfl) (fun wz9 hz => ?_) ?_
      · (try dsimp only at hz); go_simp
      simp only [Act.put, List.setIfInBounds_toArray, List.set_cons_zero, List.set_cons_succ]
      refine takeJ (i := 4) (d := 34) (Value.pointer (some ⟨kb, 13, none⟩)) hA (by decide) rfl rfl (by kernel_rfl) (by kernel_rfl) (by kernel_rfl) (by kernel_rfl) (by kernel_rfl) (fun _ _ _ h => h) hS (by rfl) (fun wz9 hz => ?_) ?_
      · (try dsimp only at hz); go_simp
      simp only [Act.put, List.setIfInBounds_toArray, List.set_cons_zero, List.set_cons_succ]
      refine takeJ (i := 5) (d := 35) (Value.int .i64 (N : Int)) hA (by decide) rfl rfl (by kernel_rfl) (by kernel_rfl) (by kernel_rfl) (by kernel_rfl) (by kernel_rfl) (fun _ _ _ h => h) hS (by rfl) (fun wz9 hz => ?_) ?_
      · (try dsimp only at hz); go_simp
      simp only [Act.put, List.setIfInBounds_toArray, List.set_cons_zero, List.set_cons_succ]
      refine takeJ (i := 7) (d := 37) (Value.pointer (some ⟨kb, 0, none⟩)) hA (by decide) rfl rfl (by kernel_rfl) (by kernel_rfl) (by kernel_rfl) (by kernel_rfl) (by kernel_rfl) (fun _ _ _ h => h) hS (by rfl) (fun wz9 hz => ?_) ?_
      · (try dsimp only at hz); go_simp
      simp only [Act.put, List.setIfInBounds_toArray, List.set_cons_zero, List.set_cons_succ]
      refine takeJ (i := 8) (d := 38) (Value.pointer (some ⟨kb, 0, none⟩)) hA (by decide) rfl rfl (by kernel_rfl) (by kernel_rfl) (by kernel_rfl) (by kernel_rfl) (by kernel_rfl) (fun _ _ _ h => h) hS (by rfl) (fun wz9 hz => ?_) ?_
      · (try dsimp only at hz); go_simp
      simp only [Act.put, List.setIfInBounds_toArray, List.set_cons_zero, List.set_cons_succ]
      refine takeJ (i := 9) (d := 39) (Value.pointer (some ⟨kb, 13, none⟩)) hA (by decide) rfl rfl (by kernel_rfl) (by kernel_rfl) (by kernel_rfl) (by kernel_rfl) (by kernel_rfl) (fun _ _ _ h => h) hS (by rfl) (fun wz9 hz => ?_) ?_
      · (try dsimp only at hz); go_simp
      simp only [Act.put, List.setIfInBounds_toArray, List.set_cons_zero, List.set_cons_succ]
      refine takeJ (i := 10) (d := 40) (Value.int .i64 (N : Int)) hA (by decide) rfl rfl (by kernel_rfl) (by kernel_rfl) (by kernel_rfl) (by kernel_rfl) (by kernel_rfl) (fun _ _ _ h => h) hS (by rfl) (fun wz9 hz => ?_) ?_
      · (try dsimp only at hz); go_simp
      simp only [Act.put, List.setIfInBounds_toArray, List.set_cons_zero, List.set_cons_succ]
      refine callJ (i := 6) (d := 36) (by kernel_rfl) rfl rfl (by rfl) 57 _ _ rfl HEn1.out _ (by simp [Act.eval]) (HU.out _) (fun v w' hR _ _ => ?_) (fun v x1 hR => ?_)
      · obtain ⟨_, rfl⟩ := hR
        exact hS
      obtain ⟨rfl, rfl⟩ := hR
      simp only [Act.put, List.setIfInBounds_toArray, List.set_cons_zero, List.set_cons_succ]
      refine takeJ (i := 11) (d := 41) (Value.int .i64 ((u - N : Nat) : Int)) hA (by decide) rfl rfl (by kernel_rfl) (by kernel_rfl) (by kernel_rfl) (by kernel_rfl) (by kernel_rfl) (fun _ _ _ h => h) hS (by rfl) (fun wz hz => ?_) ?_
      · clear hz; go_simp
      simp only [Act.put, List.setIfInBounds_toArray, List.set_cons_zero, List.set_cons_succ]
      refine callJ (i := 12) (d := 42) (by kernel_rfl) rfl rfl (by rfl) 56 _ _ rfl HEn2.out _ (by simp [Act.eval]) HZ.out (fun v w' hR h _ => absurd rfl h) (fun v x2 hR => ?_)
      obtain ⟨rfl, h9⟩ := hR
      obtain ⟨d12, d13, d59⟩ := St.cells h9
      rw [HZl.out] at d13
      have HSc := Lib.hid (sec2X HIm.out h9 (by rw [HZl.out]; have := HSz.out; omega))
      rw [HSe.out] at HSc
      clear h9 HZ hS HZl HSe
      simp only [Act.put, List.setIfInBounds_toArray, List.set_cons_zero, List.set_cons_succ]
      refine doneJ (by kernel_rfl) ?_ _
      go_wp2_with fail
      refine HSc.out.mono ?_
      rintro e w5 ⟨rfl, h5⟩
      have hL5 := HLn.out 3 (by decide)
      obtain ⟨M, hM⟩ : ∃ M, (stN I 3).1.length = M := ⟨_, rfl⟩
      have HMz : Hid ((stN I 3).1.length = M) := hM
      have HMu : Hid (u ≤ M) := show _ ≤ _ by
        have h9 : fstN I 2 ≤ (stN I 3).1.length := fst_le I 2 (by decide)
        rw [hM, HFn.out] at h9
        exact h9
      have hMu := HMu.out
      rw [hM] at hL5
      obtain ⟨k12, k13, k59⟩ := St.cells h5
      rw [hM] at k13
      have hs5 : IntKind.i64.wrap ((M : Int) - (u : Int)) = ((M - u : Nat) : Int) := by rw [IntKind.wrap_i64]; omega
      have e0 : w5.cell? ⟨kb, 24, none⟩ = some (.int .i64 0) := (St.cell h5 24).trans ((lyC_en (i := 10) h5.him h5.hen (by decide)).trans rfl)
      have z0 := St.free h5 24
      have e1 : w5.cell? ⟨kb, 25, none⟩ = some (.int .i64 0) := (St.cell h5 25).trans ((lyC_en (i := 11) h5.him h5.hen (by decide)).trans rfl)
      have z1 := St.free h5 25
      have e2 : w5.cell? ⟨kb, 26, none⟩ = some (.int .i64 0) := (St.cell h5 26).trans ((lyC_en (i := 12) h5.him h5.hen (by decide)).trans rfl)
      have z2 := St.free h5 26
      have e3 : w5.cell? ⟨kb, 27, none⟩ = some (.int .i64 0) := (St.cell h5 27).trans ((lyC_en (i := 13) h5.him h5.hen (by decide)).trans rfl)
      have z3 := St.free h5 27
      have e4 : w5.cell? ⟨kb, 28, none⟩ = some (.int .u32 0) := (St.cell h5 28).trans ((lyC_en (i := 14) h5.him h5.hen (by decide)).trans rfl)
      have z4 := St.free h5 28
      have hd5 : St B kb im o (enN I 2) w0 (stN I 3).1.length (stN I 3).1 (stN I 3).2 w5.drew := St.below h5 ⟨rfl, rfl, rfl, Nat.le_refl _, fun _ _ => rfl⟩
      have q0 := St.set hd5 (lyC_setEn (i := 10) (im := im) (o := o) hd5.him hd5.hen (by decide) (.int .i64 2)) (by simp [enN_len])
      have q1 := St.set q0 (lyC_setEn (i := 11) (im := im) (o := o) q0.him q0.hen (by decide) (.int .i64 0)) (by simp [enN_len])
      have q2 := St.set q1 (lyC_setEn (i := 12) (im := im) (o := o) q1.him q1.hen (by decide) (.int .i64 (u : Int))) (by simp [enN_len])
      have q3 := St.set q2 (lyC_setEn (i := 13) (im := im) (o := o) q2.him q2.hen (by decide) (.int .i64 ((M - u : Nat) : Int))) (by simp [enN_len])
      have q4 := St.set q3 (lyC_setEn (i := 14) (im := im) (o := o) q3.him q3.hen (by decide) (.int .u32 0)) (by simp [enN_len])
      have HQ : Hid (St B kb im o _ w0 (stN I 3).1.length (stN I 3).1 (stN I 3).2 (w5.drew.setCells kb 24 [.int .i64 2, .int .i64 0, .int .i64 (u : Int), .int .i64 ((M - u : Nat) : Int), .int .u32 0])) := Lib.hid q4
      have k13d : w5.drew.cell? ⟨kb, 13, none⟩ = some (.int .i64 (M : Int)) := k13
      have HTh : Hid (w5.drew.there kb 24 5) := fun j hj => by
        rcases (by omega : j = 0 ∨ j = 1 ∨ j = 2 ∨ j = 3 ∨ j = 4) with rfl | rfl | rfl | rfl | rfl
        · exact ⟨by show (w5.cell? _).isSome = true; rw [e0]; rfl, z0⟩
        · exact ⟨by show (w5.cell? _).isSome = true; rw [e1]; rfl, z1⟩
        · exact ⟨by show (w5.cell? _).isSome = true; rw [e2]; rfl, z2⟩
        · exact ⟨by show (w5.cell? _).isSome = true; rw [e3]; rfl, z3⟩
        · exact ⟨by show (w5.cell? _).isSome = true; rw [e4]; rfl, z4⟩
      have HEe : Hid ((((((enN I 2).set 10 (.int .i64 2)).set 11 (.int .i64 0)).set 12 (.int .i64 (u : Int))).set 13 (.int .i64 ((M - u : Nat) : Int))).set 14 (.int .u32 0) = enN I 3) := show _ = _ by
        have hl : lenN I 2 = M - u := by show (stN I 3).1.length - fstN I 2 = _; rw [hM, HFn.out]
        rw [← hl, ← HFn.out]
        rfl
      rw [HEe.out] at HQ
      have HK13 : Hid ((w5.drew.setCells kb 24 [.int .i64 2, .int .i64 0, .int .i64 (u : Int), .int .i64 ((M - u : Nat) : Int), .int .u32 0]).cell? ⟨kb, 13, none⟩ = some (.int .i64 (M : Int))) := by
        have := HQ.out.cells.2.1
        rw [hM] at this
        exact Lib.hid this
      clear q0 q1 q2 q3 q4 h5 hd5 HEe hM
      go_wp2_with fail
      refine wp_region_held_drew (S := fun W => W.cell? ⟨kb, 13, none⟩ = some (.int .i64 (M : Int))) (by kernel_rfl) k13d (fun hHeld => ?_)
      simp only [List.size_toArray, List.length_cons, List.length_nil]
      refine takeH (i := 0) (d := 49) (v := Value.pointer (some ⟨kb, 0, none⟩)) rfl rfl (by kernel_rfl) (by kernel_rfl) (by kernel_rfl) (fun _ _ _ h => h) (Or.inl ⟨by kernel_rfl, by intro w hSw; (try dsimp only at hSw); go_simp⟩) hHeld ?_
      simp only [Act.put, List.setIfInBounds_toArray, List.set_cons_zero, List.set_cons_succ]
      refine takeH (i := 1) (d := 50) (v := Value.int .i64 2) rfl rfl (by kernel_rfl) (by kernel_rfl) (by kernel_rfl) (fun _ _ _ h => h) (Or.inl ⟨by kernel_rfl, by intro w hSw; (try dsimp only at hSw); go_simp⟩) hHeld ?_
      simp only [Act.put, List.setIfInBounds_toArray, List.set_cons_zero, List.set_cons_succ]
      refine takeH (i := 2) (d := 51) (v := Value.int .i64 2) rfl rfl (by kernel_rfl) (by kernel_rfl) (by kernel_rfl) (fun _ _ _ h => h) (Or.inl ⟨by kernel_rfl, by intro w hSw; (try dsimp only at hSw); go_simp⟩) hHeld ?_
      simp only [Act.put, List.setIfInBounds_toArray, List.set_cons_zero, List.set_cons_succ]
      refine takeH (i := 3) (d := 52) (v := Value.int .i64 (u : Int)) rfl rfl (by kernel_rfl) (by kernel_rfl) (by kernel_rfl) (fun _ _ _ h => h) (Or.inl ⟨by kernel_rfl, by intro w hSw; (try dsimp only at hSw); go_simp⟩) hHeld ?_
      simp only [Act.put, List.setIfInBounds_toArray, List.set_cons_zero, List.set_cons_succ]
      refine takeH (i := 4) (d := 53) (v := Value.pointer (some ⟨kb, 0, none⟩)) rfl rfl (by kernel_rfl) (by kernel_rfl) (by kernel_rfl) (fun _ _ _ h => h) (Or.inl ⟨by kernel_rfl, by intro w hSw; (try dsimp only at hSw); go_simp⟩) hHeld ?_
      simp only [Act.put, List.setIfInBounds_toArray, List.set_cons_zero, List.set_cons_succ]
      refine takeH (i := 5) (d := 54) (v := Value.pointer (some ⟨kb, 0, none⟩)) rfl rfl (by kernel_rfl) (by kernel_rfl) (by kernel_rfl) (fun _ _ _ h => h) (Or.inl ⟨by kernel_rfl, by intro w hSw; (try dsimp only at hSw); go_simp⟩) hHeld ?_
      simp only [Act.put, List.setIfInBounds_toArray, List.set_cons_zero, List.set_cons_succ]
      refine takeH (i := 6) (d := 55) (v := Value.pointer (some ⟨kb, 13, none⟩)) rfl rfl (by kernel_rfl) (by kernel_rfl) (by kernel_rfl) (fun _ _ _ h => h) (Or.inl ⟨by kernel_rfl, by intro w hSw; (try dsimp only at hSw); go_simp⟩) hHeld ?_
      simp only [Act.put, List.setIfInBounds_toArray, List.set_cons_zero, List.set_cons_succ]
      refine takeH (i := 7) (d := 56) (v := Value.int .i64 (M : Int)) rfl rfl (by kernel_rfl) (by kernel_rfl) (by kernel_rfl) (fun _ _ _ h => h) (Or.inl ⟨by kernel_rfl, by intro w hSw; (try dsimp only at hSw); go_simp⟩) hHeld ?_
      simp only [Act.put, List.setIfInBounds_toArray, List.set_cons_zero, List.set_cons_succ]
      refine takeH (i := 8) (d := 57) (v := Value.int .i64 (u : Int)) rfl rfl (by kernel_rfl) (by kernel_rfl) (by kernel_rfl) (fun _ _ _ h => h) (Or.inl ⟨by kernel_rfl, by intro w hSw; (try dsimp only at hSw); go_simp⟩) hHeld ?_
      simp only [Act.put, List.setIfInBounds_toArray, List.set_cons_zero, List.set_cons_succ]
      refine takeH (i := 9) (d := 58) (v := Value.int .i64 ((M - u : Nat) : Int)) rfl rfl (by kernel_rfl) (by kernel_rfl) (by kernel_rfl) (fun _ _ _ h => h) (Or.inl ⟨by kernel_rfl, by intro w hSw; (try dsimp only at hSw); go_simp⟩) hHeld ?_
      simp only [Act.put, List.setIfInBounds_toArray, List.set_cons_zero, List.set_cons_succ]
      refine takeH (i := 10) (d := 59) (v := Value.agg #[.int .i64 2, .int .i64 0, .int .i64 (u : Int), .int .i64 ((M - u : Nat) : Int), .int .u32 0]) rfl rfl (by kernel_rfl) (by kernel_rfl) (by kernel_rfl) (fun _ _ _ h => h) (Or.inl ⟨by kernel_rfl, by intro w hSw; (try dsimp only at hSw); go_simp⟩) hHeld ?_
      simp only [Act.put, List.setIfInBounds_toArray, List.set_cons_zero, List.set_cons_succ]
      refine takeH (i := 11) (d := 60) (v := Value.pointer (some ⟨kb, 0, none⟩)) rfl rfl (by kernel_rfl) (by kernel_rfl) (by kernel_rfl) (fun _ _ _ h => h) (Or.inl ⟨by kernel_rfl, by intro w hSw; (try dsimp only at hSw); go_simp⟩) hHeld ?_
      simp only [Act.put, List.setIfInBounds_toArray, List.set_cons_zero, List.set_cons_succ]
      refine takeH (i := 12) (d := 61) (v := Value.pointer (some ⟨kb, 14, none⟩)) rfl rfl (by kernel_rfl) (by kernel_rfl) (by kernel_rfl) (fun _ _ _ h => h) (Or.inl ⟨by kernel_rfl, by intro w hSw; (try dsimp only at hSw); go_simp⟩) hHeld ?_
      simp only [Act.put, List.setIfInBounds_toArray, List.set_cons_zero, List.set_cons_succ]
      refine takeH (i := 13) (d := 62) (v := Value.pointer (some ⟨kb, 24, none⟩)) rfl rfl (by kernel_rfl) (by kernel_rfl) (by kernel_rfl) (fun _ _ _ h => h) (Or.inl ⟨by kernel_rfl, by intro w hSw; (try dsimp only at hSw); go_simp⟩) hHeld ?_
      simp only [Act.put, List.setIfInBounds_toArray, List.set_cons_zero, List.set_cons_succ]
      refine wpAnyH_ready (rs := [14]) (by kernel_rfl) (by simp) ?_
      refine readySkip (i := 14) (w' := w5.drew.setCells kb 24 [.int .i64 2, .int .i64 0, .int .i64 (u : Int), .int .i64 ((M - u : Nat) : Int), .int .u32 0]) rfl rfl (by kernel_rfl) (store_exec 88 (x := .tmp 62) (y := .tmp 59) rfl (c := #[.int .i64 2, .int .i64 0, .int .i64 (u : Int), .int .i64 ((M - u : Nat) : Int), .int .u32 0]) (by simp [Act.eval]) (by simp [Act.eval]) HTh.out info_en rfl) HK13.out ?_ AllReadyH.nil
      clear hHeld
      refine wpAnyH_done (by kernel_rfl) ?_ _
      go_wp2_with fail
      go_roundw
      case rel => exact ⟨3, by decide, rfl, HQ⟩
      case measure => simp [intOf]
    · -- part 3
      obtain ⟨c12, c13, c59⟩ := HI.out.cells
      have HD : Hid (Sx B kb im o (enN I 3) w0 (stN I 3) wr.drew) := St.below HI.out ⟨rfl, rfl, rfl, Nat.le_refl _, fun _ _ => rfl⟩
      have hL := HLn.out 3 (by decide)
      obtain ⟨N, hN⟩ : ∃ N, (stN I 3).1.length = N := ⟨_, rfl⟩
      have hu := beg_le 3 N
      obtain ⟨u, hu9⟩ : ∃ u, begN 3 N = u := ⟨_, rfl⟩
      rw [hN] at hL c13
      rw [hu9] at hu
      have HC0 : Hid (wr.drew.cell? ⟨kb, 13, none⟩ = some (.int .i64 (N : Int))) := hN ▸ HD.out.cells.2.1
      have HU : Hid (∀ W, Calls Tryz.prog 57 #[.int .i64 3, .int .i64 (N : Int)] W fun e w' => ∃ v, e = .returned v ∧ v = .int .i64 (u : Int) ∧ w' = W) := fun W => (beginX (p := 3) (a := N) (by omega) W).mono (fun e w' h => ⟨_, h.1, by rw [hu9], h.2⟩)
      have hsub : IntKind.i64.wrap ((u : Int) - (N : Int)) = ((u - N : Nat) : Int) := by rw [IntKind.wrap_i64]; omega
      have HZ : Hid (Calls Tryz.prog 56 #[.pointer (some ⟨kb, 0, none⟩), .int .i64 ((u - N : Nat) : Int)] wr.drew fun e w' => ∃ v, e = .returned v ∧ v = .tuple #[] ∧ Sx B kb im o (enN I 3) w0 (zerosS (u - N) (stN I 3)) w') := (zerosX HD.out (c := u - N) (by rw [hN]; omega)).mono (fun e w' h => ⟨_, h.1, rfl, h.2⟩)
      have HZl : Hid ((zerosS (u - N) (stN I 3)).1.length = u) := show _ = _ by rw [zeros_len, hN]; omega
      have HSe : Hid (secS I 3 (zerosS (u - N) (stN I 3)) = stN I 4) := show secS I 3 (zerosS (u - N) (stN I 3)) = secS I 3 (zerosS (begN 3 (stN I 3).1.length - (stN I 3).1.length) (stN I 3)) by rw [hN, hu9]
      have HFn : Hid (fstN I 3 = u) := show _ = _ by rw [fstN, hN, hu9]
      have hx9 : ∀ W, (Instr.index 123 (.agg (fun9 kb)) (.int .i64 3)).run Tryz.prog W = .ok (.func (.func 50) #[.pointer (some ⟨kb, 0, none⟩)] #[]) W := fun9_at3 kb
      clear HD hN hu9 HI
      go_wp2_with fail
      refine regionJ (fun w' => w'.cell? ⟨kb, 13, none⟩ = some (.int .i64 (N : Int))) 12 (by kernel_rfl) (by kernel_rfl) HC0.out (fun hS hA => ?_)
      refine takeJ (i := 0) (d := 30) (Value.pointer (some ⟨kb, 0, none⟩)) hA (by decide) rfl rfl (by kernel_rfl) (by kernel_rfl) (by kernel_rfl) (by kernel_rfl) (by kernel_rfl) (fun _ _ _ h => h) hS (by rfl) (fun wz9 hz => ?_) ?_
      · (try dsimp only at hz); go_simp
      simp only [Act.put, List.setIfInBounds_toArray, List.set_cons_zero, List.set_cons_succ]
      refine takeJ (i := 1) (d := 31) (Value.int .i64 3) hA (by decide) rfl rfl (by kernel_rfl) (by kernel_rfl) (by kernel_rfl) (by kernel_rfl) (by kernel_rfl) (fun _ _ _ h => h) hS (by rfl) (fun wz9 hz => ?_) ?_
      · (try dsimp only at hz); go_simp
      simp only [Act.put, List.setIfInBounds_toArray, List.set_cons_zero, List.set_cons_succ]
      refine takeJ (i := 2) (d := 32) (Value.pointer (some ⟨kb, 0, none⟩)) hA (by decide) rfl rfl (by kernel_rfl) (by kernel_rfl) (by kernel_rfl) (by kernel_rfl) (by kernel_rfl) (fun _ _ _ h => h) hS (by rfl) (fun wz9 hz => ?_) ?_
      · (try dsimp only at hz); go_simp
      simp only [Act.put, List.setIfInBounds_toArray, List.set_cons_zero, List.set_cons_succ]
      refine takeJ (i := 3) (d := 33) (Value.pointer (some ⟨kb, 0, none⟩)) hA (by decide) rfl rfl (by kernel_rfl) (by kernel_rfl) (by kernel_rfl) (by kernel_rfl) (by kernel_rfl) (fun _ _ _ h => h) hS (by rfl) (fun wz9 hz => ?_) ?_
      · (try dsimp only at hz); go_simp
      simp only [Act.put, List.setIfInBounds_toArray, List.set_cons_zero, List.set_cons_succ]
      refine takeJ (i := 4) (d := 34) (Value.pointer (some ⟨kb, 13, none⟩)) hA (by decide) rfl rfl (by kernel_rfl) (by kernel_rfl) (by kernel_rfl) (by kernel_rfl) (by kernel_rfl) (fun _ _ _ h => h) hS (by rfl) (fun wz9 hz => ?_) ?_
      · (try dsimp only at hz); go_simp
      simp only [Act.put, List.setIfInBounds_toArray, List.set_cons_zero, List.set_cons_succ]
      refine takeJ (i := 5) (d := 35) (Value.int .i64 (N : Int)) hA (by decide) rfl rfl (by kernel_rfl) (by kernel_rfl) (by kernel_rfl) (by kernel_rfl) (by kernel_rfl) (fun _ _ _ h => h) hS (by rfl) (fun wz9 hz => ?_) ?_
      · (try dsimp only at hz); go_simp
      simp only [Act.put, List.setIfInBounds_toArray, List.set_cons_zero, List.set_cons_succ]
      refine takeJ (i := 7) (d := 37) (Value.pointer (some ⟨kb, 0, none⟩)) hA (by decide) rfl rfl (by kernel_rfl) (by kernel_rfl) (by kernel_rfl) (by kernel_rfl) (by kernel_rfl) (fun _ _ _ h => h) hS (by rfl) (fun wz9 hz => ?_) ?_
      · (try dsimp only at hz); go_simp
      simp only [Act.put, List.setIfInBounds_toArray, List.set_cons_zero, List.set_cons_succ]
      refine takeJ (i := 8) (d := 38) (Value.pointer (some ⟨kb, 0, none⟩)) hA (by decide) rfl rfl (by kernel_rfl) (by kernel_rfl) (by kernel_rfl) (by kernel_rfl) (by kernel_rfl) (fun _ _ _ h => h) hS (by rfl) (fun wz9 hz => ?_) ?_
      · (try dsimp only at hz); go_simp
      simp only [Act.put, List.setIfInBounds_toArray, List.set_cons_zero, List.set_cons_succ]
      refine takeJ (i := 9) (d := 39) (Value.pointer (some ⟨kb, 13, none⟩)) hA (by decide) rfl rfl (by kernel_rfl) (by kernel_rfl) (by kernel_rfl) (by kernel_rfl) (by kernel_rfl) (fun _ _ _ h => h) hS (by rfl) (fun wz9 hz => ?_) ?_
      · (try dsimp only at hz); go_simp
      simp only [Act.put, List.setIfInBounds_toArray, List.set_cons_zero, List.set_cons_succ]
      refine takeJ (i := 10) (d := 40) (Value.int .i64 (N : Int)) hA (by decide) rfl rfl (by kernel_rfl) (by kernel_rfl) (by kernel_rfl) (by kernel_rfl) (by kernel_rfl) (fun _ _ _ h => h) hS (by rfl) (fun wz9 hz => ?_) ?_
      · (try dsimp only at hz); go_simp
      simp only [Act.put, List.setIfInBounds_toArray, List.set_cons_zero, List.set_cons_succ]
      refine callJ (i := 6) (d := 36) (by kernel_rfl) rfl rfl (by rfl) 57 _ _ rfl HEn1.out _ (by simp [Act.eval]) (HU.out _) (fun v w' hR _ _ => ?_) (fun v x1 hR => ?_)
      · obtain ⟨_, rfl⟩ := hR
        exact hS
      obtain ⟨rfl, rfl⟩ := hR
      simp only [Act.put, List.setIfInBounds_toArray, List.set_cons_zero, List.set_cons_succ]
      refine takeJ (i := 11) (d := 41) (Value.int .i64 ((u - N : Nat) : Int)) hA (by decide) rfl rfl (by kernel_rfl) (by kernel_rfl) (by kernel_rfl) (by kernel_rfl) (by kernel_rfl) (fun _ _ _ h => h) hS (by rfl) (fun wz hz => ?_) ?_
      · clear hz; go_simp
      simp only [Act.put, List.setIfInBounds_toArray, List.set_cons_zero, List.set_cons_succ]
      refine callJ (i := 12) (d := 42) (by kernel_rfl) rfl rfl (by rfl) 56 _ _ rfl HEn2.out _ (by simp [Act.eval]) HZ.out (fun v w' hR h _ => absurd rfl h) (fun v x2 hR => ?_)
      obtain ⟨rfl, h9⟩ := hR
      obtain ⟨d12, d13, d59⟩ := St.cells h9
      rw [HZl.out] at d13
      have HSc := Lib.hid (sec3X HIm.out h9 (by rw [HZl.out]; have := HSz.out; omega))
      rw [HSe.out] at HSc
      clear h9 HZ hS HZl HSe
      simp only [Act.put, List.setIfInBounds_toArray, List.set_cons_zero, List.set_cons_succ]
      refine doneJ (by kernel_rfl) ?_ _
      go_wp2_with fail
      refine HSc.out.mono ?_
      rintro e w5 ⟨rfl, h5⟩
      have hL5 := HLn.out 4 (by decide)
      obtain ⟨M, hM⟩ : ∃ M, (stN I 4).1.length = M := ⟨_, rfl⟩
      have HMz : Hid ((stN I 4).1.length = M) := hM
      have HMu : Hid (u ≤ M) := show _ ≤ _ by
        have h9 : fstN I 3 ≤ (stN I 4).1.length := fst_le I 3 (by decide)
        rw [hM, HFn.out] at h9
        exact h9
      have hMu := HMu.out
      rw [hM] at hL5
      obtain ⟨k12, k13, k59⟩ := St.cells h5
      rw [hM] at k13
      have hs5 : IntKind.i64.wrap ((M : Int) - (u : Int)) = ((M - u : Nat) : Int) := by rw [IntKind.wrap_i64]; omega
      have e0 : w5.cell? ⟨kb, 29, none⟩ = some (.int .i64 0) := (St.cell h5 29).trans ((lyC_en (i := 15) h5.him h5.hen (by decide)).trans rfl)
      have z0 := St.free h5 29
      have e1 : w5.cell? ⟨kb, 30, none⟩ = some (.int .i64 0) := (St.cell h5 30).trans ((lyC_en (i := 16) h5.him h5.hen (by decide)).trans rfl)
      have z1 := St.free h5 30
      have e2 : w5.cell? ⟨kb, 31, none⟩ = some (.int .i64 0) := (St.cell h5 31).trans ((lyC_en (i := 17) h5.him h5.hen (by decide)).trans rfl)
      have z2 := St.free h5 31
      have e3 : w5.cell? ⟨kb, 32, none⟩ = some (.int .i64 0) := (St.cell h5 32).trans ((lyC_en (i := 18) h5.him h5.hen (by decide)).trans rfl)
      have z3 := St.free h5 32
      have e4 : w5.cell? ⟨kb, 33, none⟩ = some (.int .u32 0) := (St.cell h5 33).trans ((lyC_en (i := 19) h5.him h5.hen (by decide)).trans rfl)
      have z4 := St.free h5 33
      have hd5 : St B kb im o (enN I 3) w0 (stN I 4).1.length (stN I 4).1 (stN I 4).2 w5.drew := St.below h5 ⟨rfl, rfl, rfl, Nat.le_refl _, fun _ _ => rfl⟩
      have q0 := St.set hd5 (lyC_setEn (i := 15) (im := im) (o := o) hd5.him hd5.hen (by decide) (.int .i64 3)) (by simp [enN_len])
      have q1 := St.set q0 (lyC_setEn (i := 16) (im := im) (o := o) q0.him q0.hen (by decide) (.int .i64 0)) (by simp [enN_len])
      have q2 := St.set q1 (lyC_setEn (i := 17) (im := im) (o := o) q1.him q1.hen (by decide) (.int .i64 (u : Int))) (by simp [enN_len])
      have q3 := St.set q2 (lyC_setEn (i := 18) (im := im) (o := o) q2.him q2.hen (by decide) (.int .i64 ((M - u : Nat) : Int))) (by simp [enN_len])
      have q4 := St.set q3 (lyC_setEn (i := 19) (im := im) (o := o) q3.him q3.hen (by decide) (.int .u32 0)) (by simp [enN_len])
      have HQ : Hid (St B kb im o _ w0 (stN I 4).1.length (stN I 4).1 (stN I 4).2 (w5.drew.setCells kb 29 [.int .i64 3, .int .i64 0, .int .i64 (u : Int), .int .i64 ((M - u : Nat) : Int), .int .u32 0])) := Lib.hid q4
      have k13d : w5.drew.cell? ⟨kb, 13, none⟩ = some (.int .i64 (M : Int)) := k13
      have HTh : Hid (w5.drew.there kb 29 5) := fun j hj => by
        rcases (by omega : j = 0 ∨ j = 1 ∨ j = 2 ∨ j = 3 ∨ j = 4) with rfl | rfl | rfl | rfl | rfl
        · exact ⟨by show (w5.cell? _).isSome = true; rw [e0]; rfl, z0⟩
        · exact ⟨by show (w5.cell? _).isSome = true; rw [e1]; rfl, z1⟩
        · exact ⟨by show (w5.cell? _).isSome = true; rw [e2]; rfl, z2⟩
        · exact ⟨by show (w5.cell? _).isSome = true; rw [e3]; rfl, z3⟩
        · exact ⟨by show (w5.cell? _).isSome = true; rw [e4]; rfl, z4⟩
      have HEe : Hid ((((((enN I 3).set 15 (.int .i64 3)).set 16 (.int .i64 0)).set 17 (.int .i64 (u : Int))).set 18 (.int .i64 ((M - u : Nat) : Int))).set 19 (.int .u32 0) = enN I 4) := show _ = _ by
        have hl : lenN I 3 = M - u := by show (stN I 4).1.length - fstN I 3 = _; rw [hM, HFn.out]
        rw [← hl, ← HFn.out]
        rfl
      rw [HEe.out] at HQ
      have HK13 : Hid ((w5.drew.setCells kb 29 [.int .i64 3, .int .i64 0, .int .i64 (u : Int), .int .i64 ((M - u : Nat) : Int), .int .u32 0]).cell? ⟨kb, 13, none⟩ = some (.int .i64 (M : Int))) := by
        have := HQ.out.cells.2.1
        rw [hM] at this
        exact Lib.hid this
      clear q0 q1 q2 q3 q4 h5 hd5 HEe hM
      go_wp2_with fail
      refine wp_region_held_drew (S := fun W => W.cell? ⟨kb, 13, none⟩ = some (.int .i64 (M : Int))) (by kernel_rfl) k13d (fun hHeld => ?_)
      simp only [List.size_toArray, List.length_cons, List.length_nil]
      refine takeH (i := 0) (d := 49) (v := Value.pointer (some ⟨kb, 0, none⟩)) rfl rfl (by kernel_rfl) (by kernel_rfl) (by kernel_rfl) (fun _ _ _ h => h) (Or.inl ⟨by kernel_rfl, by intro w hSw; (try dsimp only at hSw); go_simp⟩) hHeld ?_
      simp only [Act.put, List.setIfInBounds_toArray, List.set_cons_zero, List.set_cons_succ]
      refine takeH (i := 1) (d := 50) (v := Value.int .i64 3) rfl rfl (by kernel_rfl) (by kernel_rfl) (by kernel_rfl) (fun _ _ _ h => h) (Or.inl ⟨by kernel_rfl, by intro w hSw; (try dsimp only at hSw); go_simp⟩) hHeld ?_
      simp only [Act.put, List.setIfInBounds_toArray, List.set_cons_zero, List.set_cons_succ]
      refine takeH (i := 2) (d := 51) (v := Value.int .i64 3) rfl rfl (by kernel_rfl) (by kernel_rfl) (by kernel_rfl) (fun _ _ _ h => h) (Or.inl ⟨by kernel_rfl, by intro w hSw; (try dsimp only at hSw); go_simp⟩) hHeld ?_
      simp only [Act.put, List.setIfInBounds_toArray, List.set_cons_zero, List.set_cons_succ]
      refine takeH (i := 3) (d := 52) (v := Value.int .i64 (u : Int)) rfl rfl (by kernel_rfl) (by kernel_rfl) (by kernel_rfl) (fun _ _ _ h => h) (Or.inl ⟨by kernel_rfl, by intro w hSw; (try dsimp only at hSw); go_simp⟩) hHeld ?_
      simp only [Act.put, List.setIfInBounds_toArray, List.set_cons_zero, List.set_cons_succ]
      refine takeH (i := 4) (d := 53) (v := Value.pointer (some ⟨kb, 0, none⟩)) rfl rfl (by kernel_rfl) (by kernel_rfl) (by kernel_rfl) (fun _ _ _ h => h) (Or.inl ⟨by kernel_rfl, by intro w hSw; (try dsimp only at hSw); go_simp⟩) hHeld ?_
      simp only [Act.put, List.setIfInBounds_toArray, List.set_cons_zero, List.set_cons_succ]
      refine takeH (i := 5) (d := 54) (v := Value.pointer (some ⟨kb, 0, none⟩)) rfl rfl (by kernel_rfl) (by kernel_rfl) (by kernel_rfl) (fun _ _ _ h => h) (Or.inl ⟨by kernel_rfl, by intro w hSw; (try dsimp only at hSw); go_simp⟩) hHeld ?_
      simp only [Act.put, List.setIfInBounds_toArray, List.set_cons_zero, List.set_cons_succ]
      refine takeH (i := 6) (d := 55) (v := Value.pointer (some ⟨kb, 13, none⟩)) rfl rfl (by kernel_rfl) (by kernel_rfl) (by kernel_rfl) (fun _ _ _ h => h) (Or.inl ⟨by kernel_rfl, by intro w hSw; (try dsimp only at hSw); go_simp⟩) hHeld ?_
      simp only [Act.put, List.setIfInBounds_toArray, List.set_cons_zero, List.set_cons_succ]
      refine takeH (i := 7) (d := 56) (v := Value.int .i64 (M : Int)) rfl rfl (by kernel_rfl) (by kernel_rfl) (by kernel_rfl) (fun _ _ _ h => h) (Or.inl ⟨by kernel_rfl, by intro w hSw; (try dsimp only at hSw); go_simp⟩) hHeld ?_
      simp only [Act.put, List.setIfInBounds_toArray, List.set_cons_zero, List.set_cons_succ]
      refine takeH (i := 8) (d := 57) (v := Value.int .i64 (u : Int)) rfl rfl (by kernel_rfl) (by kernel_rfl) (by kernel_rfl) (fun _ _ _ h => h) (Or.inl ⟨by kernel_rfl, by intro w hSw; (try dsimp only at hSw); go_simp⟩) hHeld ?_
      simp only [Act.put, List.setIfInBounds_toArray, List.set_cons_zero, List.set_cons_succ]
      refine takeH (i := 9) (d := 58) (v := Value.int .i64 ((M - u : Nat) : Int)) rfl rfl (by kernel_rfl) (by kernel_rfl) (by kernel_rfl) (fun _ _ _ h => h) (Or.inl ⟨by kernel_rfl, by intro w hSw; (try dsimp only at hSw); go_simp⟩) hHeld ?_
      simp only [Act.put, List.setIfInBounds_toArray, List.set_cons_zero, List.set_cons_succ]
      refine takeH (i := 10) (d := 59) (v := Value.agg #[.int .i64 3, .int .i64 0, .int .i64 (u : Int), .int .i64 ((M - u : Nat) : Int), .int .u32 0]) rfl rfl (by kernel_rfl) (by kernel_rfl) (by kernel_rfl) (fun _ _ _ h => h) (Or.inl ⟨by kernel_rfl, by intro w hSw; (try dsimp only at hSw); go_simp⟩) hHeld ?_
      simp only [Act.put, List.setIfInBounds_toArray, List.set_cons_zero, List.set_cons_succ]
      refine takeH (i := 11) (d := 60) (v := Value.pointer (some ⟨kb, 0, none⟩)) rfl rfl (by kernel_rfl) (by kernel_rfl) (by kernel_rfl) (fun _ _ _ h => h) (Or.inl ⟨by kernel_rfl, by intro w hSw; (try dsimp only at hSw); go_simp⟩) hHeld ?_
      simp only [Act.put, List.setIfInBounds_toArray, List.set_cons_zero, List.set_cons_succ]
      refine takeH (i := 12) (d := 61) (v := Value.pointer (some ⟨kb, 14, none⟩)) rfl rfl (by kernel_rfl) (by kernel_rfl) (by kernel_rfl) (fun _ _ _ h => h) (Or.inl ⟨by kernel_rfl, by intro w hSw; (try dsimp only at hSw); go_simp⟩) hHeld ?_
      simp only [Act.put, List.setIfInBounds_toArray, List.set_cons_zero, List.set_cons_succ]
      refine takeH (i := 13) (d := 62) (v := Value.pointer (some ⟨kb, 29, none⟩)) rfl rfl (by kernel_rfl) (by kernel_rfl) (by kernel_rfl) (fun _ _ _ h => h) (Or.inl ⟨by kernel_rfl, by intro w hSw; (try dsimp only at hSw); go_simp⟩) hHeld ?_
      simp only [Act.put, List.setIfInBounds_toArray, List.set_cons_zero, List.set_cons_succ]
      refine wpAnyH_ready (rs := [14]) (by kernel_rfl) (by simp) ?_
      refine readySkip (i := 14) (w' := w5.drew.setCells kb 29 [.int .i64 3, .int .i64 0, .int .i64 (u : Int), .int .i64 ((M - u : Nat) : Int), .int .u32 0]) rfl rfl (by kernel_rfl) (store_exec 88 (x := .tmp 62) (y := .tmp 59) rfl (c := #[.int .i64 3, .int .i64 0, .int .i64 (u : Int), .int .i64 ((M - u : Nat) : Int), .int .u32 0]) (by simp [Act.eval]) (by simp [Act.eval]) HTh.out info_en rfl) HK13.out ?_ AllReadyH.nil
      clear hHeld
      refine wpAnyH_done (by kernel_rfl) ?_ _
      go_wp2_with fail
      go_roundw
      case rel => exact ⟨4, by decide, rfl, HQ⟩
      case measure => simp [intOf]
    · -- part 4
      obtain ⟨c12, c13, c59⟩ := HI.out.cells
      have HD : Hid (Sx B kb im o (enN I 4) w0 (stN I 4) wr.drew) := St.below HI.out ⟨rfl, rfl, rfl, Nat.le_refl _, fun _ _ => rfl⟩
      have hL := HLn.out 4 (by decide)
      obtain ⟨N, hN⟩ : ∃ N, (stN I 4).1.length = N := ⟨_, rfl⟩
      have hu := beg_le 4 N
      obtain ⟨u, hu9⟩ : ∃ u, begN 4 N = u := ⟨_, rfl⟩
      rw [hN] at hL c13
      rw [hu9] at hu
      have HC0 : Hid (wr.drew.cell? ⟨kb, 13, none⟩ = some (.int .i64 (N : Int))) := hN ▸ HD.out.cells.2.1
      have HU : Hid (∀ W, Calls Tryz.prog 57 #[.int .i64 4, .int .i64 (N : Int)] W fun e w' => ∃ v, e = .returned v ∧ v = .int .i64 (u : Int) ∧ w' = W) := fun W => (beginX (p := 4) (a := N) (by omega) W).mono (fun e w' h => ⟨_, h.1, by rw [hu9], h.2⟩)
      have hsub : IntKind.i64.wrap ((u : Int) - (N : Int)) = ((u - N : Nat) : Int) := by rw [IntKind.wrap_i64]; omega
      have HZ : Hid (Calls Tryz.prog 56 #[.pointer (some ⟨kb, 0, none⟩), .int .i64 ((u - N : Nat) : Int)] wr.drew fun e w' => ∃ v, e = .returned v ∧ v = .tuple #[] ∧ Sx B kb im o (enN I 4) w0 (zerosS (u - N) (stN I 4)) w') := (zerosX HD.out (c := u - N) (by rw [hN]; omega)).mono (fun e w' h => ⟨_, h.1, rfl, h.2⟩)
      have HZl : Hid ((zerosS (u - N) (stN I 4)).1.length = u) := show _ = _ by rw [zeros_len, hN]; omega
      have HSe : Hid (secS I 4 (zerosS (u - N) (stN I 4)) = stN I 5) := show secS I 4 (zerosS (u - N) (stN I 4)) = secS I 4 (zerosS (begN 4 (stN I 4).1.length - (stN I 4).1.length) (stN I 4)) by rw [hN, hu9]
      have HFn : Hid (fstN I 4 = u) := show _ = _ by rw [fstN, hN, hu9]
      have hx9 : ∀ W, (Instr.index 123 (.agg (fun9 kb)) (.int .i64 4)).run Tryz.prog W = .ok (.func (.func 51) #[.pointer (some ⟨kb, 0, none⟩)] #[]) W := fun9_at4 kb
      clear HD hN hu9 HI
      go_wp2_with fail
      refine regionJ (fun w' => w'.cell? ⟨kb, 13, none⟩ = some (.int .i64 (N : Int))) 12 (by kernel_rfl) (by kernel_rfl) HC0.out (fun hS hA => ?_)
      refine takeJ (i := 0) (d := 30) (Value.pointer (some ⟨kb, 0, none⟩)) hA (by decide) rfl rfl (by kernel_rfl) (by kernel_rfl) (by kernel_rfl) (by kernel_rfl) (by kernel_rfl) (fun _ _ _ h => h) hS (by rfl) (fun wz9 hz => ?_) ?_
      · (try dsimp only at hz); go_simp
      simp only [Act.put, List.setIfInBounds_toArray, List.set_cons_zero, List.set_cons_succ]
      refine takeJ (i := 1) (d := 31) (Value.int .i64 4) hA (by decide) rfl rfl (by kernel_rfl) (by kernel_rfl) (by kernel_rfl) (by kernel_rfl) (by kernel_rfl) (fun _ _ _ h => h) hS (by rfl) (fun wz9 hz => ?_) ?_
      · (try dsimp only at hz); go_simp
      simp only [Act.put, List.setIfInBounds_toArray, List.set_cons_zero, List.set_cons_succ]
      refine takeJ (i := 2) (d := 32) (Value.pointer (some ⟨kb, 0, none⟩)) hA (by decide) rfl rfl (by kernel_rfl) (by kernel_rfl) (by kernel_rfl) (by kernel_rfl) (by kernel_rfl) (fun _ _ _ h => h) hS (by rfl) (fun wz9 hz => ?_) ?_
      · (try dsimp only at hz); go_simp
      simp only [Act.put, List.setIfInBounds_toArray, List.set_cons_zero, List.set_cons_succ]
      refine takeJ (i := 3) (d := 33) (Value.pointer (some ⟨kb, 0, none⟩)) hA (by decide) rfl rfl (by kernel_rfl) (by kernel_rfl) (by kernel_rfl) (by kernel_rfl) (by kernel_rfl) (fun _ _ _ h => h) hS (by rfl) (fun wz9 hz => ?_) ?_
      · (try dsimp only at hz); go_simp
      simp only [Act.put, List.setIfInBounds_toArray, List.set_cons_zero, List.set_cons_succ]
      refine takeJ (i := 4) (d := 34) (Value.pointer (some ⟨kb, 13, none⟩)) hA (by decide) rfl rfl (by kernel_rfl) (by kernel_rfl) (by kernel_rfl) (by kernel_rfl) (by kernel_rfl) (fun _ _ _ h => h) hS (by rfl) (fun wz9 hz => ?_) ?_
      · (try dsimp only at hz); go_simp
      simp only [Act.put, List.setIfInBounds_toArray, List.set_cons_zero, List.set_cons_succ]
      refine takeJ (i := 5) (d := 35) (Value.int .i64 (N : Int)) hA (by decide) rfl rfl (by kernel_rfl) (by kernel_rfl) (by kernel_rfl) (by kernel_rfl) (by kernel_rfl) (fun _ _ _ h => h) hS (by rfl) (fun wz9 hz => ?_) ?_
      · (try dsimp only at hz); go_simp
      simp only [Act.put, List.setIfInBounds_toArray, List.set_cons_zero, List.set_cons_succ]
      refine takeJ (i := 7) (d := 37) (Value.pointer (some ⟨kb, 0, none⟩)) hA (by decide) rfl rfl (by kernel_rfl) (by kernel_rfl) (by kernel_rfl) (by kernel_rfl) (by kernel_rfl) (fun _ _ _ h => h) hS (by rfl) (fun wz9 hz => ?_) ?_
      · (try dsimp only at hz); go_simp
      simp only [Act.put, List.setIfInBounds_toArray, List.set_cons_zero, List.set_cons_succ]
      refine takeJ (i := 8) (d := 38) (Value.pointer (some ⟨kb, 0, none⟩)) hA (by decide) rfl rfl (by kernel_rfl) (by kernel_rfl) (by kernel_rfl) (by kernel_rfl) (by kernel_rfl) (fun _ _ _ h => h) hS (by rfl) (fun wz9 hz => ?_) ?_
      · (try dsimp only at hz); go_simp
      simp only [Act.put, List.setIfInBounds_toArray, List.set_cons_zero, List.set_cons_succ]
      refine takeJ (i := 9) (d := 39) (Value.pointer (some ⟨kb, 13, none⟩)) hA (by decide) rfl rfl (by kernel_rfl) (by kernel_rfl) (by kernel_rfl) (by kernel_rfl) (by kernel_rfl) (fun _ _ _ h => h) hS (by rfl) (fun wz9 hz => ?_) ?_
      · (try dsimp only at hz); go_simp
      simp only [Act.put, List.setIfInBounds_toArray, List.set_cons_zero, List.set_cons_succ]
      refine takeJ (i := 10) (d := 40) (Value.int .i64 (N : Int)) hA (by decide) rfl rfl (by kernel_rfl) (by kernel_rfl) (by kernel_rfl) (by kernel_rfl) (by kernel_rfl) (fun _ _ _ h => h) hS (by rfl) (fun wz9 hz => ?_) ?_
      · (try dsimp only at hz); go_simp
      simp only [Act.put, List.setIfInBounds_toArray, List.set_cons_zero, List.set_cons_succ]
      refine callJ (i := 6) (d := 36) (by kernel_rfl) rfl rfl (by rfl) 57 _ _ rfl HEn1.out _ (by simp [Act.eval]) (HU.out _) (fun v w' hR _ _ => ?_) (fun v x1 hR => ?_)
      · obtain ⟨_, rfl⟩ := hR
        exact hS
      obtain ⟨rfl, rfl⟩ := hR
      simp only [Act.put, List.setIfInBounds_toArray, List.set_cons_zero, List.set_cons_succ]
      refine takeJ (i := 11) (d := 41) (Value.int .i64 ((u - N : Nat) : Int)) hA (by decide) rfl rfl (by kernel_rfl) (by kernel_rfl) (by kernel_rfl) (by kernel_rfl) (by kernel_rfl) (fun _ _ _ h => h) hS (by rfl) (fun wz hz => ?_) ?_
      · clear hz; go_simp
      simp only [Act.put, List.setIfInBounds_toArray, List.set_cons_zero, List.set_cons_succ]
      refine callJ (i := 12) (d := 42) (by kernel_rfl) rfl rfl (by rfl) 56 _ _ rfl HEn2.out _ (by simp [Act.eval]) HZ.out (fun v w' hR h _ => absurd rfl h) (fun v x2 hR => ?_)
      obtain ⟨rfl, h9⟩ := hR
      obtain ⟨d12, d13, d59⟩ := St.cells h9
      rw [HZl.out] at d13
      have HSc := Lib.hid (sec4X HIm.out h9 (by rw [HZl.out]; have := HSz.out; omega))
      rw [HSe.out] at HSc
      clear h9 HZ hS HZl HSe
      simp only [Act.put, List.setIfInBounds_toArray, List.set_cons_zero, List.set_cons_succ]
      refine doneJ (by kernel_rfl) ?_ _
      go_wp2_with fail
      refine HSc.out.mono ?_
      rintro e w5 ⟨rfl, h5⟩
      have hL5 := HLn.out 5 (by decide)
      obtain ⟨M, hM⟩ : ∃ M, (stN I 5).1.length = M := ⟨_, rfl⟩
      have HMz : Hid ((stN I 5).1.length = M) := hM
      have HMu : Hid (u ≤ M) := show _ ≤ _ by
        have h9 : fstN I 4 ≤ (stN I 5).1.length := fst_le I 4 (by decide)
        rw [hM, HFn.out] at h9
        exact h9
      have hMu := HMu.out
      rw [hM] at hL5
      obtain ⟨k12, k13, k59⟩ := St.cells h5
      rw [hM] at k13
      have hs5 : IntKind.i64.wrap ((M : Int) - (u : Int)) = ((M - u : Nat) : Int) := by rw [IntKind.wrap_i64]; omega
      have e0 : w5.cell? ⟨kb, 34, none⟩ = some (.int .i64 0) := (St.cell h5 34).trans ((lyC_en (i := 20) h5.him h5.hen (by decide)).trans rfl)
      have z0 := St.free h5 34
      have e1 : w5.cell? ⟨kb, 35, none⟩ = some (.int .i64 0) := (St.cell h5 35).trans ((lyC_en (i := 21) h5.him h5.hen (by decide)).trans rfl)
      have z1 := St.free h5 35
      have e2 : w5.cell? ⟨kb, 36, none⟩ = some (.int .i64 0) := (St.cell h5 36).trans ((lyC_en (i := 22) h5.him h5.hen (by decide)).trans rfl)
      have z2 := St.free h5 36
      have e3 : w5.cell? ⟨kb, 37, none⟩ = some (.int .i64 0) := (St.cell h5 37).trans ((lyC_en (i := 23) h5.him h5.hen (by decide)).trans rfl)
      have z3 := St.free h5 37
      have e4 : w5.cell? ⟨kb, 38, none⟩ = some (.int .u32 0) := (St.cell h5 38).trans ((lyC_en (i := 24) h5.him h5.hen (by decide)).trans rfl)
      have z4 := St.free h5 38
      have hd5 : St B kb im o (enN I 4) w0 (stN I 5).1.length (stN I 5).1 (stN I 5).2 w5.drew := St.below h5 ⟨rfl, rfl, rfl, Nat.le_refl _, fun _ _ => rfl⟩
      have q0 := St.set hd5 (lyC_setEn (i := 20) (im := im) (o := o) hd5.him hd5.hen (by decide) (.int .i64 4)) (by simp [enN_len])
      have q1 := St.set q0 (lyC_setEn (i := 21) (im := im) (o := o) q0.him q0.hen (by decide) (.int .i64 0)) (by simp [enN_len])
      have q2 := St.set q1 (lyC_setEn (i := 22) (im := im) (o := o) q1.him q1.hen (by decide) (.int .i64 (u : Int))) (by simp [enN_len])
      have q3 := St.set q2 (lyC_setEn (i := 23) (im := im) (o := o) q2.him q2.hen (by decide) (.int .i64 ((M - u : Nat) : Int))) (by simp [enN_len])
      have q4 := St.set q3 (lyC_setEn (i := 24) (im := im) (o := o) q3.him q3.hen (by decide) (.int .u32 0)) (by simp [enN_len])
      have HQ : Hid (St B kb im o _ w0 (stN I 5).1.length (stN I 5).1 (stN I 5).2 (w5.drew.setCells kb 34 [.int .i64 4, .int .i64 0, .int .i64 (u : Int), .int .i64 ((M - u : Nat) : Int), .int .u32 0])) := Lib.hid q4
      have k13d : w5.drew.cell? ⟨kb, 13, none⟩ = some (.int .i64 (M : Int)) := k13
      have HTh : Hid (w5.drew.there kb 34 5) := fun j hj => by
        rcases (by omega : j = 0 ∨ j = 1 ∨ j = 2 ∨ j = 3 ∨ j = 4) with rfl | rfl | rfl | rfl | rfl
        · exact ⟨by show (w5.cell? _).isSome = true; rw [e0]; rfl, z0⟩
        · exact ⟨by show (w5.cell? _).isSome = true; rw [e1]; rfl, z1⟩
        · exact ⟨by show (w5.cell? _).isSome = true; rw [e2]; rfl, z2⟩
        · exact ⟨by show (w5.cell? _).isSome = true; rw [e3]; rfl, z3⟩
        · exact ⟨by show (w5.cell? _).isSome = true; rw [e4]; rfl, z4⟩
      have HEe : Hid ((((((enN I 4).set 20 (.int .i64 4)).set 21 (.int .i64 0)).set 22 (.int .i64 (u : Int))).set 23 (.int .i64 ((M - u : Nat) : Int))).set 24 (.int .u32 0) = enN I 5) := show _ = _ by
        have hl : lenN I 4 = M - u := by show (stN I 5).1.length - fstN I 4 = _; rw [hM, HFn.out]
        rw [← hl, ← HFn.out]
        rfl
      rw [HEe.out] at HQ
      have HK13 : Hid ((w5.drew.setCells kb 34 [.int .i64 4, .int .i64 0, .int .i64 (u : Int), .int .i64 ((M - u : Nat) : Int), .int .u32 0]).cell? ⟨kb, 13, none⟩ = some (.int .i64 (M : Int))) := by
        have := HQ.out.cells.2.1
        rw [hM] at this
        exact Lib.hid this
      clear q0 q1 q2 q3 q4 h5 hd5 HEe hM
      go_wp2_with fail
      refine wp_region_held_drew (S := fun W => W.cell? ⟨kb, 13, none⟩ = some (.int .i64 (M : Int))) (by kernel_rfl) k13d (fun hHeld => ?_)
      simp only [List.size_toArray, List.length_cons, List.length_nil]
      refine takeH (i := 0) (d := 49) (v := Value.pointer (some ⟨kb, 0, none⟩)) rfl rfl (by kernel_rfl) (by kernel_rfl) (by kernel_rfl) (fun _ _ _ h => h) (Or.inl ⟨by kernel_rfl, by intro w hSw; (try dsimp only at hSw); go_simp⟩) hHeld ?_
      simp only [Act.put, List.setIfInBounds_toArray, List.set_cons_zero, List.set_cons_succ]
      refine takeH (i := 1) (d := 50) (v := Value.int .i64 4) rfl rfl (by kernel_rfl) (by kernel_rfl) (by kernel_rfl) (fun _ _ _ h => h) (Or.inl ⟨by kernel_rfl, by intro w hSw; (try dsimp only at hSw); go_simp⟩) hHeld ?_
      simp only [Act.put, List.setIfInBounds_toArray, List.set_cons_zero, List.set_cons_succ]
      refine takeH (i := 2) (d := 51) (v := Value.int .i64 4) rfl rfl (by kernel_rfl) (by kernel_rfl) (by kernel_rfl) (fun _ _ _ h => h) (Or.inl ⟨by kernel_rfl, by intro w hSw; (try dsimp only at hSw); go_simp⟩) hHeld ?_
      simp only [Act.put, List.setIfInBounds_toArray, List.set_cons_zero, List.set_cons_succ]
      refine takeH (i := 3) (d := 52) (v := Value.int .i64 (u : Int)) rfl rfl (by kernel_rfl) (by kernel_rfl) (by kernel_rfl) (fun _ _ _ h => h) (Or.inl ⟨by kernel_rfl, by intro w hSw; (try dsimp only at hSw); go_simp⟩) hHeld ?_
      simp only [Act.put, List.setIfInBounds_toArray, List.set_cons_zero, List.set_cons_succ]
      refine takeH (i := 4) (d := 53) (v := Value.pointer (some ⟨kb, 0, none⟩)) rfl rfl (by kernel_rfl) (by kernel_rfl) (by kernel_rfl) (fun _ _ _ h => h) (Or.inl ⟨by kernel_rfl, by intro w hSw; (try dsimp only at hSw); go_simp⟩) hHeld ?_
      simp only [Act.put, List.setIfInBounds_toArray, List.set_cons_zero, List.set_cons_succ]
      refine takeH (i := 5) (d := 54) (v := Value.pointer (some ⟨kb, 0, none⟩)) rfl rfl (by kernel_rfl) (by kernel_rfl) (by kernel_rfl) (fun _ _ _ h => h) (Or.inl ⟨by kernel_rfl, by intro w hSw; (try dsimp only at hSw); go_simp⟩) hHeld ?_
      simp only [Act.put, List.setIfInBounds_toArray, List.set_cons_zero, List.set_cons_succ]
      refine takeH (i := 6) (d := 55) (v := Value.pointer (some ⟨kb, 13, none⟩)) rfl rfl (by kernel_rfl) (by kernel_rfl) (by kernel_rfl) (fun _ _ _ h => h) (Or.inl ⟨by kernel_rfl, by intro w hSw; (try dsimp only at hSw); go_simp⟩) hHeld ?_
      simp only [Act.put, List.setIfInBounds_toArray, List.set_cons_zero, List.set_cons_succ]
      refine takeH (i := 7) (d := 56) (v := Value.int .i64 (M : Int)) rfl rfl (by kernel_rfl) (by kernel_rfl) (by kernel_rfl) (fun _ _ _ h => h) (Or.inl ⟨by kernel_rfl, by intro w hSw; (try dsimp only at hSw); go_simp⟩) hHeld ?_
      simp only [Act.put, List.setIfInBounds_toArray, List.set_cons_zero, List.set_cons_succ]
      refine takeH (i := 8) (d := 57) (v := Value.int .i64 (u : Int)) rfl rfl (by kernel_rfl) (by kernel_rfl) (by kernel_rfl) (fun _ _ _ h => h) (Or.inl ⟨by kernel_rfl, by intro w hSw; (try dsimp only at hSw); go_simp⟩) hHeld ?_
      simp only [Act.put, List.setIfInBounds_toArray, List.set_cons_zero, List.set_cons_succ]
      refine takeH (i := 9) (d := 58) (v := Value.int .i64 ((M - u : Nat) : Int)) rfl rfl (by kernel_rfl) (by kernel_rfl) (by kernel_rfl) (fun _ _ _ h => h) (Or.inl ⟨by kernel_rfl, by intro w hSw; (try dsimp only at hSw); go_simp⟩) hHeld ?_
      simp only [Act.put, List.setIfInBounds_toArray, List.set_cons_zero, List.set_cons_succ]
      refine takeH (i := 10) (d := 59) (v := Value.agg #[.int .i64 4, .int .i64 0, .int .i64 (u : Int), .int .i64 ((M - u : Nat) : Int), .int .u32 0]) rfl rfl (by kernel_rfl) (by kernel_rfl) (by kernel_rfl) (fun _ _ _ h => h) (Or.inl ⟨by kernel_rfl, by intro w hSw; (try dsimp only at hSw); go_simp⟩) hHeld ?_
      simp only [Act.put, List.setIfInBounds_toArray, List.set_cons_zero, List.set_cons_succ]
      refine takeH (i := 11) (d := 60) (v := Value.pointer (some ⟨kb, 0, none⟩)) rfl rfl (by kernel_rfl) (by kernel_rfl) (by kernel_rfl) (fun _ _ _ h => h) (Or.inl ⟨by kernel_rfl, by intro w hSw; (try dsimp only at hSw); go_simp⟩) hHeld ?_
      simp only [Act.put, List.setIfInBounds_toArray, List.set_cons_zero, List.set_cons_succ]
      refine takeH (i := 12) (d := 61) (v := Value.pointer (some ⟨kb, 14, none⟩)) rfl rfl (by kernel_rfl) (by kernel_rfl) (by kernel_rfl) (fun _ _ _ h => h) (Or.inl ⟨by kernel_rfl, by intro w hSw; (try dsimp only at hSw); go_simp⟩) hHeld ?_
      simp only [Act.put, List.setIfInBounds_toArray, List.set_cons_zero, List.set_cons_succ]
      refine takeH (i := 13) (d := 62) (v := Value.pointer (some ⟨kb, 34, none⟩)) rfl rfl (by kernel_rfl) (by kernel_rfl) (by kernel_rfl) (fun _ _ _ h => h) (Or.inl ⟨by kernel_rfl, by intro w hSw; (try dsimp only at hSw); go_simp⟩) hHeld ?_
      simp only [Act.put, List.setIfInBounds_toArray, List.set_cons_zero, List.set_cons_succ]
      refine wpAnyH_ready (rs := [14]) (by kernel_rfl) (by simp) ?_
      refine readySkip (i := 14) (w' := w5.drew.setCells kb 34 [.int .i64 4, .int .i64 0, .int .i64 (u : Int), .int .i64 ((M - u : Nat) : Int), .int .u32 0]) rfl rfl (by kernel_rfl) (store_exec 88 (x := .tmp 62) (y := .tmp 59) rfl (c := #[.int .i64 4, .int .i64 0, .int .i64 (u : Int), .int .i64 ((M - u : Nat) : Int), .int .u32 0]) (by simp [Act.eval]) (by simp [Act.eval]) HTh.out info_en rfl) HK13.out ?_ AllReadyH.nil
      clear hHeld
      refine wpAnyH_done (by kernel_rfl) ?_ _
      go_wp2_with fail
      go_roundw
      case rel => exact ⟨5, by decide, rfl, HQ⟩
      case measure => simp [intOf]
    · -- part 5
      obtain ⟨c12, c13, c59⟩ := HI.out.cells
      have HD : Hid (Sx B kb im o (enN I 5) w0 (stN I 5) wr.drew) := St.below HI.out ⟨rfl, rfl, rfl, Nat.le_refl _, fun _ _ => rfl⟩
      have hL := HLn.out 5 (by decide)
      obtain ⟨N, hN⟩ : ∃ N, (stN I 5).1.length = N := ⟨_, rfl⟩
      have hu := beg_le 5 N
      obtain ⟨u, hu9⟩ : ∃ u, begN 5 N = u := ⟨_, rfl⟩
      rw [hN] at hL c13
      rw [hu9] at hu
      have HC0 : Hid (wr.drew.cell? ⟨kb, 13, none⟩ = some (.int .i64 (N : Int))) := hN ▸ HD.out.cells.2.1
      have HU : Hid (∀ W, Calls Tryz.prog 57 #[.int .i64 5, .int .i64 (N : Int)] W fun e w' => ∃ v, e = .returned v ∧ v = .int .i64 (u : Int) ∧ w' = W) := fun W => (beginX (p := 5) (a := N) (by omega) W).mono (fun e w' h => ⟨_, h.1, by rw [hu9], h.2⟩)
      have hsub : IntKind.i64.wrap ((u : Int) - (N : Int)) = ((u - N : Nat) : Int) := by rw [IntKind.wrap_i64]; omega
      have HZ : Hid (Calls Tryz.prog 56 #[.pointer (some ⟨kb, 0, none⟩), .int .i64 ((u - N : Nat) : Int)] wr.drew fun e w' => ∃ v, e = .returned v ∧ v = .tuple #[] ∧ Sx B kb im o (enN I 5) w0 (zerosS (u - N) (stN I 5)) w') := (zerosX HD.out (c := u - N) (by rw [hN]; omega)).mono (fun e w' h => ⟨_, h.1, rfl, h.2⟩)
      have HZl : Hid ((zerosS (u - N) (stN I 5)).1.length = u) := show _ = _ by rw [zeros_len, hN]; omega
      have HSe : Hid (secS I 5 (zerosS (u - N) (stN I 5)) = stN I 6) := show secS I 5 (zerosS (u - N) (stN I 5)) = secS I 5 (zerosS (begN 5 (stN I 5).1.length - (stN I 5).1.length) (stN I 5)) by rw [hN, hu9]
      have HFn : Hid (fstN I 5 = u) := show _ = _ by rw [fstN, hN, hu9]
      have hx9 : ∀ W, (Instr.index 123 (.agg (fun9 kb)) (.int .i64 5)).run Tryz.prog W = .ok (.func (.func 52) #[.pointer (some ⟨kb, 0, none⟩)] #[]) W := fun9_at5 kb
      clear HD hN hu9 HI
      go_wp2_with fail
      refine regionJ (fun w' => w'.cell? ⟨kb, 13, none⟩ = some (.int .i64 (N : Int))) 12 (by kernel_rfl) (by kernel_rfl) HC0.out (fun hS hA => ?_)
      refine takeJ (i := 0) (d := 30) (Value.pointer (some ⟨kb, 0, none⟩)) hA (by decide) rfl rfl (by kernel_rfl) (by kernel_rfl) (by kernel_rfl) (by kernel_rfl) (by kernel_rfl) (fun _ _ _ h => h) hS (by rfl) (fun wz9 hz => ?_) ?_
      · (try dsimp only at hz); go_simp
      simp only [Act.put, List.setIfInBounds_toArray, List.set_cons_zero, List.set_cons_succ]
      refine takeJ (i := 1) (d := 31) (Value.int .i64 5) hA (by decide) rfl rfl (by kernel_rfl) (by kernel_rfl) (by kernel_rfl) (by kernel_rfl) (by kernel_rfl) (fun _ _ _ h => h) hS (by rfl) (fun wz9 hz => ?_) ?_
      · (try dsimp only at hz); go_simp
      simp only [Act.put, List.setIfInBounds_toArray, List.set_cons_zero, List.set_cons_succ]
      refine takeJ (i := 2) (d := 32) (Value.pointer (some ⟨kb, 0, none⟩)) hA (by decide) rfl rfl (by kernel_rfl) (by kernel_rfl) (by kernel_rfl) (by kernel_rfl) (by kernel_rfl) (fun _ _ _ h => h) hS (by rfl) (fun wz9 hz => ?_) ?_
      · (try dsimp only at hz); go_simp
      simp only [Act.put, List.setIfInBounds_toArray, List.set_cons_zero, List.set_cons_succ]
      refine takeJ (i := 3) (d := 33) (Value.pointer (some ⟨kb, 0, none⟩)) hA (by decide) rfl rfl (by kernel_rfl) (by kernel_rfl) (by kernel_rfl) (by kernel_rfl) (by kernel_rfl) (fun _ _ _ h => h) hS (by rfl) (fun wz9 hz => ?_) ?_
      · (try dsimp only at hz); go_simp
      simp only [Act.put, List.setIfInBounds_toArray, List.set_cons_zero, List.set_cons_succ]
      refine takeJ (i := 4) (d := 34) (Value.pointer (some ⟨kb, 13, none⟩)) hA (by decide) rfl rfl (by kernel_rfl) (by kernel_rfl) (by kernel_rfl) (by kernel_rfl) (by kernel_rfl) (fun _ _ _ h => h) hS (by rfl) (fun wz9 hz => ?_) ?_
      · (try dsimp only at hz); go_simp
      simp only [Act.put, List.setIfInBounds_toArray, List.set_cons_zero, List.set_cons_succ]
      refine takeJ (i := 5) (d := 35) (Value.int .i64 (N : Int)) hA (by decide) rfl rfl (by kernel_rfl) (by kernel_rfl) (by kernel_rfl) (by kernel_rfl) (by kernel_rfl) (fun _ _ _ h => h) hS (by rfl) (fun wz9 hz => ?_) ?_
      · (try dsimp only at hz); go_simp
      simp only [Act.put, List.setIfInBounds_toArray, List.set_cons_zero, List.set_cons_succ]
      refine takeJ (i := 7) (d := 37) (Value.pointer (some ⟨kb, 0, none⟩)) hA (by decide) rfl rfl (by kernel_rfl) (by kernel_rfl) (by kernel_rfl) (by kernel_rfl) (by kernel_rfl) (fun _ _ _ h => h) hS (by rfl) (fun wz9 hz => ?_) ?_
      · (try dsimp only at hz); go_simp
      simp only [Act.put, List.setIfInBounds_toArray, List.set_cons_zero, List.set_cons_succ]
      refine takeJ (i := 8) (d := 38) (Value.pointer (some ⟨kb, 0, none⟩)) hA (by decide) rfl rfl (by kernel_rfl) (by kernel_rfl) (by kernel_rfl) (by kernel_rfl) (by kernel_rfl) (fun _ _ _ h => h) hS (by rfl) (fun wz9 hz => ?_) ?_
      · (try dsimp only at hz); go_simp
      simp only [Act.put, List.setIfInBounds_toArray, List.set_cons_zero, List.set_cons_succ]
      refine takeJ (i := 9) (d := 39) (Value.pointer (some ⟨kb, 13, none⟩)) hA (by decide) rfl rfl (by kernel_rfl) (by kernel_rfl) (by kernel_rfl) (by kernel_rfl) (by kernel_rfl) (fun _ _ _ h => h) hS (by rfl) (fun wz9 hz => ?_) ?_
      · (try dsimp only at hz); go_simp
      simp only [Act.put, List.setIfInBounds_toArray, List.set_cons_zero, List.set_cons_succ]
      refine takeJ (i := 10) (d := 40) (Value.int .i64 (N : Int)) hA (by decide) rfl rfl (by kernel_rfl) (by kernel_rfl) (by kernel_rfl) (by kernel_rfl) (by kernel_rfl) (fun _ _ _ h => h) hS (by rfl) (fun wz9 hz => ?_) ?_
      · (try dsimp only at hz); go_simp
      simp only [Act.put, List.setIfInBounds_toArray, List.set_cons_zero, List.set_cons_succ]
      refine callJ (i := 6) (d := 36) (by kernel_rfl) rfl rfl (by rfl) 57 _ _ rfl HEn1.out _ (by simp [Act.eval]) (HU.out _) (fun v w' hR _ _ => ?_) (fun v x1 hR => ?_)
      · obtain ⟨_, rfl⟩ := hR
        exact hS
      obtain ⟨rfl, rfl⟩ := hR
      simp only [Act.put, List.setIfInBounds_toArray, List.set_cons_zero, List.set_cons_succ]
      refine takeJ (i := 11) (d := 41) (Value.int .i64 ((u - N : Nat) : Int)) hA (by decide) rfl rfl (by kernel_rfl) (by kernel_rfl) (by kernel_rfl) (by kernel_rfl) (by kernel_rfl) (fun _ _ _ h => h) hS (by rfl) (fun wz hz => ?_) ?_
      · clear hz; go_simp
      simp only [Act.put, List.setIfInBounds_toArray, List.set_cons_zero, List.set_cons_succ]
      refine callJ (i := 12) (d := 42) (by kernel_rfl) rfl rfl (by rfl) 56 _ _ rfl HEn2.out _ (by simp [Act.eval]) HZ.out (fun v w' hR h _ => absurd rfl h) (fun v x2 hR => ?_)
      obtain ⟨rfl, h9⟩ := hR
      obtain ⟨d12, d13, d59⟩ := St.cells h9
      rw [HZl.out] at d13
      have HSc := Lib.hid (sec5X HIm.out h9 (by rw [HZl.out]; have := HSz.out; omega))
      rw [HSe.out] at HSc
      clear h9 HZ hS HZl HSe
      simp only [Act.put, List.setIfInBounds_toArray, List.set_cons_zero, List.set_cons_succ]
      refine doneJ (by kernel_rfl) ?_ _
      go_wp2_with fail
      refine HSc.out.mono ?_
      rintro e w5 ⟨rfl, h5⟩
      have hL5 := HLn.out 6 (by decide)
      obtain ⟨M, hM⟩ : ∃ M, (stN I 6).1.length = M := ⟨_, rfl⟩
      have HMz : Hid ((stN I 6).1.length = M) := hM
      have HMu : Hid (u ≤ M) := show _ ≤ _ by
        have h9 : fstN I 5 ≤ (stN I 6).1.length := fst_le I 5 (by decide)
        rw [hM, HFn.out] at h9
        exact h9
      have hMu := HMu.out
      rw [hM] at hL5
      obtain ⟨k12, k13, k59⟩ := St.cells h5
      rw [hM] at k13
      have hs5 : IntKind.i64.wrap ((M : Int) - (u : Int)) = ((M - u : Nat) : Int) := by rw [IntKind.wrap_i64]; omega
      have e0 : w5.cell? ⟨kb, 39, none⟩ = some (.int .i64 0) := (St.cell h5 39).trans ((lyC_en (i := 25) h5.him h5.hen (by decide)).trans rfl)
      have z0 := St.free h5 39
      have e1 : w5.cell? ⟨kb, 40, none⟩ = some (.int .i64 0) := (St.cell h5 40).trans ((lyC_en (i := 26) h5.him h5.hen (by decide)).trans rfl)
      have z1 := St.free h5 40
      have e2 : w5.cell? ⟨kb, 41, none⟩ = some (.int .i64 0) := (St.cell h5 41).trans ((lyC_en (i := 27) h5.him h5.hen (by decide)).trans rfl)
      have z2 := St.free h5 41
      have e3 : w5.cell? ⟨kb, 42, none⟩ = some (.int .i64 0) := (St.cell h5 42).trans ((lyC_en (i := 28) h5.him h5.hen (by decide)).trans rfl)
      have z3 := St.free h5 42
      have e4 : w5.cell? ⟨kb, 43, none⟩ = some (.int .u32 0) := (St.cell h5 43).trans ((lyC_en (i := 29) h5.him h5.hen (by decide)).trans rfl)
      have z4 := St.free h5 43
      have hd5 : St B kb im o (enN I 5) w0 (stN I 6).1.length (stN I 6).1 (stN I 6).2 w5.drew := St.below h5 ⟨rfl, rfl, rfl, Nat.le_refl _, fun _ _ => rfl⟩
      have q0 := St.set hd5 (lyC_setEn (i := 25) (im := im) (o := o) hd5.him hd5.hen (by decide) (.int .i64 5)) (by simp [enN_len])
      have q1 := St.set q0 (lyC_setEn (i := 26) (im := im) (o := o) q0.him q0.hen (by decide) (.int .i64 0)) (by simp [enN_len])
      have q2 := St.set q1 (lyC_setEn (i := 27) (im := im) (o := o) q1.him q1.hen (by decide) (.int .i64 (u : Int))) (by simp [enN_len])
      have q3 := St.set q2 (lyC_setEn (i := 28) (im := im) (o := o) q2.him q2.hen (by decide) (.int .i64 ((M - u : Nat) : Int))) (by simp [enN_len])
      have q4 := St.set q3 (lyC_setEn (i := 29) (im := im) (o := o) q3.him q3.hen (by decide) (.int .u32 0)) (by simp [enN_len])
      have HQ : Hid (St B kb im o _ w0 (stN I 6).1.length (stN I 6).1 (stN I 6).2 (w5.drew.setCells kb 39 [.int .i64 5, .int .i64 0, .int .i64 (u : Int), .int .i64 ((M - u : Nat) : Int), .int .u32 0])) := Lib.hid q4
      have k13d : w5.drew.cell? ⟨kb, 13, none⟩ = some (.int .i64 (M : Int)) := k13
      have HTh : Hid (w5.drew.there kb 39 5) := fun j hj => by
        rcases (by omega : j = 0 ∨ j = 1 ∨ j = 2 ∨ j = 3 ∨ j = 4) with rfl | rfl | rfl | rfl | rfl
        · exact ⟨by show (w5.cell? _).isSome = true; rw [e0]; rfl, z0⟩
        · exact ⟨by show (w5.cell? _).isSome = true; rw [e1]; rfl, z1⟩
        · exact ⟨by show (w5.cell? _).isSome = true; rw [e2]; rfl, z2⟩
        · exact ⟨by show (w5.cell? _).isSome = true; rw [e3]; rfl, z3⟩
        · exact ⟨by show (w5.cell? _).isSome = true; rw [e4]; rfl, z4⟩
      have HEe : Hid ((((((enN I 5).set 25 (.int .i64 5)).set 26 (.int .i64 0)).set 27 (.int .i64 (u : Int))).set 28 (.int .i64 ((M - u : Nat) : Int))).set 29 (.int .u32 0) = enN I 6) := show _ = _ by
        have hl : lenN I 5 = M - u := by show (stN I 6).1.length - fstN I 5 = _; rw [hM, HFn.out]
        rw [← hl, ← HFn.out]
        rfl
      rw [HEe.out] at HQ
      have HK13 : Hid ((w5.drew.setCells kb 39 [.int .i64 5, .int .i64 0, .int .i64 (u : Int), .int .i64 ((M - u : Nat) : Int), .int .u32 0]).cell? ⟨kb, 13, none⟩ = some (.int .i64 (M : Int))) := by
        have := HQ.out.cells.2.1
        rw [hM] at this
        exact Lib.hid this
      clear q0 q1 q2 q3 q4 h5 hd5 HEe hM
      go_wp2_with fail
      refine wp_region_held_drew (S := fun W => W.cell? ⟨kb, 13, none⟩ = some (.int .i64 (M : Int))) (by kernel_rfl) k13d (fun hHeld => ?_)
      simp only [List.size_toArray, List.length_cons, List.length_nil]
      refine takeH (i := 0) (d := 49) (v := Value.pointer (some ⟨kb, 0, none⟩)) rfl rfl (by kernel_rfl) (by kernel_rfl) (by kernel_rfl) (fun _ _ _ h => h) (Or.inl ⟨by kernel_rfl, by intro w hSw; (try dsimp only at hSw); go_simp⟩) hHeld ?_
      simp only [Act.put, List.setIfInBounds_toArray, List.set_cons_zero, List.set_cons_succ]
      refine takeH (i := 1) (d := 50) (v := Value.int .i64 5) rfl rfl (by kernel_rfl) (by kernel_rfl) (by kernel_rfl) (fun _ _ _ h => h) (Or.inl ⟨by kernel_rfl, by intro w hSw; (try dsimp only at hSw); go_simp⟩) hHeld ?_
      simp only [Act.put, List.setIfInBounds_toArray, List.set_cons_zero, List.set_cons_succ]
      refine takeH (i := 2) (d := 51) (v := Value.int .i64 5) rfl rfl (by kernel_rfl) (by kernel_rfl) (by kernel_rfl) (fun _ _ _ h => h) (Or.inl ⟨by kernel_rfl, by intro w hSw; (try dsimp only at hSw); go_simp⟩) hHeld ?_
      simp only [Act.put, List.setIfInBounds_toArray, List.set_cons_zero, List.set_cons_succ]
      refine takeH (i := 3) (d := 52) (v := Value.int .i64 (u : Int)) rfl rfl (by kernel_rfl) (by kernel_rfl) (by kernel_rfl) (fun _ _ _ h => h) (Or.inl ⟨by kernel_rfl, by intro w hSw; (try dsimp only at hSw); go_simp⟩) hHeld ?_
      simp only [Act.put, List.setIfInBounds_toArray, List.set_cons_zero, List.set_cons_succ]
      refine takeH (i := 4) (d := 53) (v := Value.pointer (some ⟨kb, 0, none⟩)) rfl rfl (by kernel_rfl) (by kernel_rfl) (by kernel_rfl) (fun _ _ _ h => h) (Or.inl ⟨by kernel_rfl, by intro w hSw; (try dsimp only at hSw); go_simp⟩) hHeld ?_
      simp only [Act.put, List.setIfInBounds_toArray, List.set_cons_zero, List.set_cons_succ]
      refine takeH (i := 5) (d := 54) (v := Value.pointer (some ⟨kb, 0, none⟩)) rfl rfl (by kernel_rfl) (by kernel_rfl) (by kernel_rfl) (fun _ _ _ h => h) (Or.inl ⟨by kernel_rfl, by intro w hSw; (try dsimp only at hSw); go_simp⟩) hHeld ?_
      simp only [Act.put, List.setIfInBounds_toArray, List.set_cons_zero, List.set_cons_succ]
      refine takeH (i := 6) (d := 55) (v := Value.pointer (some ⟨kb, 13, none⟩)) rfl rfl (by kernel_rfl) (by kernel_rfl) (by kernel_rfl) (fun _ _ _ h => h) (Or.inl ⟨by kernel_rfl, by intro w hSw; (try dsimp only at hSw); go_simp⟩) hHeld ?_
      simp only [Act.put, List.setIfInBounds_toArray, List.set_cons_zero, List.set_cons_succ]
      refine takeH (i := 7) (d := 56) (v := Value.int .i64 (M : Int)) rfl rfl (by kernel_rfl) (by kernel_rfl) (by kernel_rfl) (fun _ _ _ h => h) (Or.inl ⟨by kernel_rfl, by intro w hSw; (try dsimp only at hSw); go_simp⟩) hHeld ?_
      simp only [Act.put, List.setIfInBounds_toArray, List.set_cons_zero, List.set_cons_succ]
      refine takeH (i := 8) (d := 57) (v := Value.int .i64 (u : Int)) rfl rfl (by kernel_rfl) (by kernel_rfl) (by kernel_rfl) (fun _ _ _ h => h) (Or.inl ⟨by kernel_rfl, by intro w hSw; (try dsimp only at hSw); go_simp⟩) hHeld ?_
      simp only [Act.put, List.setIfInBounds_toArray, List.set_cons_zero, List.set_cons_succ]
      refine takeH (i := 9) (d := 58) (v := Value.int .i64 ((M - u : Nat) : Int)) rfl rfl (by kernel_rfl) (by kernel_rfl) (by kernel_rfl) (fun _ _ _ h => h) (Or.inl ⟨by kernel_rfl, by intro w hSw; (try dsimp only at hSw); go_simp⟩) hHeld ?_
      simp only [Act.put, List.setIfInBounds_toArray, List.set_cons_zero, List.set_cons_succ]
      refine takeH (i := 10) (d := 59) (v := Value.agg #[.int .i64 5, .int .i64 0, .int .i64 (u : Int), .int .i64 ((M - u : Nat) : Int), .int .u32 0]) rfl rfl (by kernel_rfl) (by kernel_rfl) (by kernel_rfl) (fun _ _ _ h => h) (Or.inl ⟨by kernel_rfl, by intro w hSw; (try dsimp only at hSw); go_simp⟩) hHeld ?_
      simp only [Act.put, List.setIfInBounds_toArray, List.set_cons_zero, List.set_cons_succ]
      refine takeH (i := 11) (d := 60) (v := Value.pointer (some ⟨kb, 0, none⟩)) rfl rfl (by kernel_rfl) (by kernel_rfl) (by kernel_rfl) (fun _ _ _ h => h) (Or.inl ⟨by kernel_rfl, by intro w hSw; (try dsimp only at hSw); go_simp⟩) hHeld ?_
      simp only [Act.put, List.setIfInBounds_toArray, List.set_cons_zero, List.set_cons_succ]
      refine takeH (i := 12) (d := 61) (v := Value.pointer (some ⟨kb, 14, none⟩)) rfl rfl (by kernel_rfl) (by kernel_rfl) (by kernel_rfl) (fun _ _ _ h => h) (Or.inl ⟨by kernel_rfl, by intro w hSw; (try dsimp only at hSw); go_simp⟩) hHeld ?_
      simp only [Act.put, List.setIfInBounds_toArray, List.set_cons_zero, List.set_cons_succ]
      refine takeH (i := 13) (d := 62) (v := Value.pointer (some ⟨kb, 39, none⟩)) rfl rfl (by kernel_rfl) (by kernel_rfl) (by kernel_rfl) (fun _ _ _ h => h) (Or.inl ⟨by kernel_rfl, by intro w hSw; (try dsimp only at hSw); go_simp⟩) hHeld ?_
      simp only [Act.put, List.setIfInBounds_toArray, List.set_cons_zero, List.set_cons_succ]
      refine wpAnyH_ready (rs := [14]) (by kernel_rfl) (by simp) ?_
      refine readySkip (i := 14) (w' := w5.drew.setCells kb 39 [.int .i64 5, .int .i64 0, .int .i64 (u : Int), .int .i64 ((M - u : Nat) : Int), .int .u32 0]) rfl rfl (by kernel_rfl) (store_exec 88 (x := .tmp 62) (y := .tmp 59) rfl (c := #[.int .i64 5, .int .i64 0, .int .i64 (u : Int), .int .i64 ((M - u : Nat) : Int), .int .u32 0]) (by simp [Act.eval]) (by simp [Act.eval]) HTh.out info_en rfl) HK13.out ?_ AllReadyH.nil
      clear hHeld
      refine wpAnyH_done (by kernel_rfl) ?_ _
      go_wp2_with fail
      go_roundw
      case rel => exact ⟨6, by decide, rfl, HQ⟩
      case measure => simp [intOf]
    · -- part 6
      obtain ⟨c12, c13, c59⟩ := HI.out.cells
      have HD : Hid (Sx B kb im o (enN I 6) w0 (stN I 6) wr.drew) := St.below HI.out ⟨rfl, rfl, rfl, Nat.le_refl _, fun _ _ => rfl⟩
      have hL := HLn.out 6 (by decide)
      obtain ⟨N, hN⟩ : ∃ N, (stN I 6).1.length = N := ⟨_, rfl⟩
      have hu := beg_le 6 N
      obtain ⟨u, hu9⟩ : ∃ u, begN 6 N = u := ⟨_, rfl⟩
      rw [hN] at hL c13
      rw [hu9] at hu
      have HC0 : Hid (wr.drew.cell? ⟨kb, 13, none⟩ = some (.int .i64 (N : Int))) := hN ▸ HD.out.cells.2.1
      have HU : Hid (∀ W, Calls Tryz.prog 57 #[.int .i64 6, .int .i64 (N : Int)] W fun e w' => ∃ v, e = .returned v ∧ v = .int .i64 (u : Int) ∧ w' = W) := fun W => (beginX (p := 6) (a := N) (by omega) W).mono (fun e w' h => ⟨_, h.1, by rw [hu9], h.2⟩)
      have hsub : IntKind.i64.wrap ((u : Int) - (N : Int)) = ((u - N : Nat) : Int) := by rw [IntKind.wrap_i64]; omega
      have HZ : Hid (Calls Tryz.prog 56 #[.pointer (some ⟨kb, 0, none⟩), .int .i64 ((u - N : Nat) : Int)] wr.drew fun e w' => ∃ v, e = .returned v ∧ v = .tuple #[] ∧ Sx B kb im o (enN I 6) w0 (zerosS (u - N) (stN I 6)) w') := (zerosX HD.out (c := u - N) (by rw [hN]; omega)).mono (fun e w' h => ⟨_, h.1, rfl, h.2⟩)
      have HZl : Hid ((zerosS (u - N) (stN I 6)).1.length = u) := show _ = _ by rw [zeros_len, hN]; omega
      have HSe : Hid (secS I 6 (zerosS (u - N) (stN I 6)) = stN I 7) := show secS I 6 (zerosS (u - N) (stN I 6)) = secS I 6 (zerosS (begN 6 (stN I 6).1.length - (stN I 6).1.length) (stN I 6)) by rw [hN, hu9]
      have HFn : Hid (fstN I 6 = u) := show _ = _ by rw [fstN, hN, hu9]
      have hx9 : ∀ W, (Instr.index 123 (.agg (fun9 kb)) (.int .i64 6)).run Tryz.prog W = .ok (.func (.func 53) #[.pointer (some ⟨kb, 0, none⟩)] #[]) W := fun9_at6 kb
      clear HD hN hu9 HI
      go_wp2_with fail
      refine regionJ (fun w' => w'.cell? ⟨kb, 13, none⟩ = some (.int .i64 (N : Int))) 12 (by kernel_rfl) (by kernel_rfl) HC0.out (fun hS hA => ?_)
      refine takeJ (i := 0) (d := 30) (Value.pointer (some ⟨kb, 0, none⟩)) hA (by decide) rfl rfl (by kernel_rfl) (by kernel_rfl) (by kernel_rfl) (by kernel_rfl) (by kernel_rfl) (fun _ _ _ h => h) hS (by rfl) (fun wz9 hz => ?_) ?_
      · (try dsimp only at hz); go_simp
      simp only [Act.put, List.setIfInBounds_toArray, List.set_cons_zero, List.set_cons_succ]
      refine takeJ (i := 1) (d := 31) (Value.int .i64 6) hA (by decide) rfl rfl (by kernel_rfl) (by kernel_rfl) (by kernel_rfl) (by kernel_rfl) (by kernel_rfl) (fun _ _ _ h => h) hS (by rfl) (fun wz9 hz => ?_) ?_
      · (try dsimp only at hz); go_simp
      simp only [Act.put, List.setIfInBounds_toArray, List.set_cons_zero, List.set_cons_succ]
      refine takeJ (i := 2) (d := 32) (Value.pointer (some ⟨kb, 0, none⟩)) hA (by decide) rfl rfl (by kernel_rfl) (by kernel_rfl) (by kernel_rfl) (by kernel_rfl) (by kernel_rfl) (fun _ _ _ h => h) hS (by rfl) (fun wz9 hz => ?_) ?_
      · (try dsimp only at hz); go_simp
      simp only [Act.put, List.setIfInBounds_toArray, List.set_cons_zero, List.set_cons_succ]
      refine takeJ (i := 3) (d := 33) (Value.pointer (some ⟨kb, 0, none⟩)) hA (by decide) rfl rfl (by kernel_rfl) (by kernel_rfl) (by kernel_rfl) (by kernel_rfl) (by kernel_rfl) (fun _ _ _ h => h) hS (by rfl) (fun wz9 hz => ?_) ?_
      · (try dsimp only at hz); go_simp
      simp only [Act.put, List.setIfInBounds_toArray, List.set_cons_zero, List.set_cons_succ]
      refine takeJ (i := 4) (d := 34) (Value.pointer (some ⟨kb, 13, none⟩)) hA (by decide) rfl rfl (by kernel_rfl) (by kernel_rfl) (by kernel_rfl) (by kernel_rfl) (by kernel_rfl) (fun _ _ _ h => h) hS (by rfl) (fun wz9 hz => ?_) ?_
      · (try dsimp only at hz); go_simp
      simp only [Act.put, List.setIfInBounds_toArray, List.set_cons_zero, List.set_cons_succ]
      refine takeJ (i := 5) (d := 35) (Value.int .i64 (N : Int)) hA (by decide) rfl rfl (by kernel_rfl) (by kernel_rfl) (by kernel_rfl) (by kernel_rfl) (by kernel_rfl) (fun _ _ _ h => h) hS (by rfl) (fun wz9 hz => ?_) ?_
      · (try dsimp only at hz); go_simp
      simp only [Act.put, List.setIfInBounds_toArray, List.set_cons_zero, List.set_cons_succ]
      refine takeJ (i := 7) (d := 37) (Value.pointer (some ⟨kb, 0, none⟩)) hA (by decide) rfl rfl (by kernel_rfl) (by kernel_rfl) (by kernel_rfl) (by kernel_rfl) (by kernel_rfl) (fun _ _ _ h => h) hS (by rfl) (fun wz9 hz => ?_) ?_
      · (try dsimp only at hz); go_simp
      simp only [Act.put, List.setIfInBounds_toArray, List.set_cons_zero, List.set_cons_succ]
      refine takeJ (i := 8) (d := 38) (Value.pointer (some ⟨kb, 0, none⟩)) hA (by decide) rfl rfl (by kernel_rfl) (by kernel_rfl) (by kernel_rfl) (by kernel_rfl) (by kernel_rfl) (fun _ _ _ h => h) hS (by rfl) (fun wz9 hz => ?_) ?_
      · (try dsimp only at hz); go_simp
      simp only [Act.put, List.setIfInBounds_toArray, List.set_cons_zero, List.set_cons_succ]
      refine takeJ (i := 9) (d := 39) (Value.pointer (some ⟨kb, 13, none⟩)) hA (by decide) rfl rfl (by kernel_rfl) (by kernel_rfl) (by kernel_rfl) (by kernel_rfl) (by kernel_rfl) (fun _ _ _ h => h) hS (by rfl) (fun wz9 hz => ?_) ?_
      · (try dsimp only at hz); go_simp
      simp only [Act.put, List.setIfInBounds_toArray, List.set_cons_zero, List.set_cons_succ]
      refine takeJ (i := 10) (d := 40) (Value.int .i64 (N : Int)) hA (by decide) rfl rfl (by kernel_rfl) (by kernel_rfl) (by kernel_rfl) (by kernel_rfl) (by kernel_rfl) (fun _ _ _ h => h) hS (by rfl) (fun wz9 hz => ?_) ?_
      · (try dsimp only at hz); go_simp
      simp only [Act.put, List.setIfInBounds_toArray, List.set_cons_zero, List.set_cons_succ]
      refine callJ (i := 6) (d := 36) (by kernel_rfl) rfl rfl (by rfl) 57 _ _ rfl HEn1.out _ (by simp [Act.eval]) (HU.out _) (fun v w' hR _ _ => ?_) (fun v x1 hR => ?_)
      · obtain ⟨_, rfl⟩ := hR
        exact hS
      obtain ⟨rfl, rfl⟩ := hR
      simp only [Act.put, List.setIfInBounds_toArray, List.set_cons_zero, List.set_cons_succ]
      refine takeJ (i := 11) (d := 41) (Value.int .i64 ((u - N : Nat) : Int)) hA (by decide) rfl rfl (by kernel_rfl) (by kernel_rfl) (by kernel_rfl) (by kernel_rfl) (by kernel_rfl) (fun _ _ _ h => h) hS (by rfl) (fun wz hz => ?_) ?_
      · clear hz; go_simp
      simp only [Act.put, List.setIfInBounds_toArray, List.set_cons_zero, List.set_cons_succ]
      refine callJ (i := 12) (d := 42) (by kernel_rfl) rfl rfl (by rfl) 56 _ _ rfl HEn2.out _ (by simp [Act.eval]) HZ.out (fun v w' hR h _ => absurd rfl h) (fun v x2 hR => ?_)
      obtain ⟨rfl, h9⟩ := hR
      obtain ⟨d12, d13, d59⟩ := St.cells h9
      rw [HZl.out] at d13
      have HSc := Lib.hid (sec6X HIm.out h9 (by rw [HZl.out]; have := HSz.out; omega))
      rw [HSe.out] at HSc
      clear h9 HZ hS HZl HSe
      simp only [Act.put, List.setIfInBounds_toArray, List.set_cons_zero, List.set_cons_succ]
      refine doneJ (by kernel_rfl) ?_ _
      go_wp2_with fail
      refine HSc.out.mono ?_
      rintro e w5 ⟨rfl, h5⟩
      have hL5 := HLn.out 7 (by decide)
      obtain ⟨M, hM⟩ : ∃ M, (stN I 7).1.length = M := ⟨_, rfl⟩
      have HMz : Hid ((stN I 7).1.length = M) := hM
      have HMu : Hid (u ≤ M) := show _ ≤ _ by
        have h9 : fstN I 6 ≤ (stN I 7).1.length := fst_le I 6 (by decide)
        rw [hM, HFn.out] at h9
        exact h9
      have hMu := HMu.out
      rw [hM] at hL5
      obtain ⟨k12, k13, k59⟩ := St.cells h5
      rw [hM] at k13
      have hs5 : IntKind.i64.wrap ((M : Int) - (u : Int)) = ((M - u : Nat) : Int) := by rw [IntKind.wrap_i64]; omega
      have e0 : w5.cell? ⟨kb, 44, none⟩ = some (.int .i64 0) := (St.cell h5 44).trans ((lyC_en (i := 30) h5.him h5.hen (by decide)).trans rfl)
      have z0 := St.free h5 44
      have e1 : w5.cell? ⟨kb, 45, none⟩ = some (.int .i64 0) := (St.cell h5 45).trans ((lyC_en (i := 31) h5.him h5.hen (by decide)).trans rfl)
      have z1 := St.free h5 45
      have e2 : w5.cell? ⟨kb, 46, none⟩ = some (.int .i64 0) := (St.cell h5 46).trans ((lyC_en (i := 32) h5.him h5.hen (by decide)).trans rfl)
      have z2 := St.free h5 46
      have e3 : w5.cell? ⟨kb, 47, none⟩ = some (.int .i64 0) := (St.cell h5 47).trans ((lyC_en (i := 33) h5.him h5.hen (by decide)).trans rfl)
      have z3 := St.free h5 47
      have e4 : w5.cell? ⟨kb, 48, none⟩ = some (.int .u32 0) := (St.cell h5 48).trans ((lyC_en (i := 34) h5.him h5.hen (by decide)).trans rfl)
      have z4 := St.free h5 48
      have hd5 : St B kb im o (enN I 6) w0 (stN I 7).1.length (stN I 7).1 (stN I 7).2 w5.drew := St.below h5 ⟨rfl, rfl, rfl, Nat.le_refl _, fun _ _ => rfl⟩
      have q0 := St.set hd5 (lyC_setEn (i := 30) (im := im) (o := o) hd5.him hd5.hen (by decide) (.int .i64 6)) (by simp [enN_len])
      have q1 := St.set q0 (lyC_setEn (i := 31) (im := im) (o := o) q0.him q0.hen (by decide) (.int .i64 0)) (by simp [enN_len])
      have q2 := St.set q1 (lyC_setEn (i := 32) (im := im) (o := o) q1.him q1.hen (by decide) (.int .i64 (u : Int))) (by simp [enN_len])
      have q3 := St.set q2 (lyC_setEn (i := 33) (im := im) (o := o) q2.him q2.hen (by decide) (.int .i64 ((M - u : Nat) : Int))) (by simp [enN_len])
      have q4 := St.set q3 (lyC_setEn (i := 34) (im := im) (o := o) q3.him q3.hen (by decide) (.int .u32 0)) (by simp [enN_len])
      have HQ : Hid (St B kb im o _ w0 (stN I 7).1.length (stN I 7).1 (stN I 7).2 (w5.drew.setCells kb 44 [.int .i64 6, .int .i64 0, .int .i64 (u : Int), .int .i64 ((M - u : Nat) : Int), .int .u32 0])) := Lib.hid q4
      have k13d : w5.drew.cell? ⟨kb, 13, none⟩ = some (.int .i64 (M : Int)) := k13
      have HTh : Hid (w5.drew.there kb 44 5) := fun j hj => by
        rcases (by omega : j = 0 ∨ j = 1 ∨ j = 2 ∨ j = 3 ∨ j = 4) with rfl | rfl | rfl | rfl | rfl
        · exact ⟨by show (w5.cell? _).isSome = true; rw [e0]; rfl, z0⟩
        · exact ⟨by show (w5.cell? _).isSome = true; rw [e1]; rfl, z1⟩
        · exact ⟨by show (w5.cell? _).isSome = true; rw [e2]; rfl, z2⟩
        · exact ⟨by show (w5.cell? _).isSome = true; rw [e3]; rfl, z3⟩
        · exact ⟨by show (w5.cell? _).isSome = true; rw [e4]; rfl, z4⟩
      have HEe : Hid ((((((enN I 6).set 30 (.int .i64 6)).set 31 (.int .i64 0)).set 32 (.int .i64 (u : Int))).set 33 (.int .i64 ((M - u : Nat) : Int))).set 34 (.int .u32 0) = enN I 7) := show _ = _ by
        have hl : lenN I 6 = M - u := by show (stN I 7).1.length - fstN I 6 = _; rw [hM, HFn.out]
        rw [← hl, ← HFn.out]
        rfl
      rw [HEe.out] at HQ
      have HK13 : Hid ((w5.drew.setCells kb 44 [.int .i64 6, .int .i64 0, .int .i64 (u : Int), .int .i64 ((M - u : Nat) : Int), .int .u32 0]).cell? ⟨kb, 13, none⟩ = some (.int .i64 (M : Int))) := by
        have := HQ.out.cells.2.1
        rw [hM] at this
        exact Lib.hid this
      clear q0 q1 q2 q3 q4 h5 hd5 HEe hM
      go_wp2_with fail
      refine wp_region_held_drew (S := fun W => W.cell? ⟨kb, 13, none⟩ = some (.int .i64 (M : Int))) (by kernel_rfl) k13d (fun hHeld => ?_)
      simp only [List.size_toArray, List.length_cons, List.length_nil]
      refine takeH (i := 0) (d := 49) (v := Value.pointer (some ⟨kb, 0, none⟩)) rfl rfl (by kernel_rfl) (by kernel_rfl) (by kernel_rfl) (fun _ _ _ h => h) (Or.inl ⟨by kernel_rfl, by intro w hSw; (try dsimp only at hSw); go_simp⟩) hHeld ?_
      simp only [Act.put, List.setIfInBounds_toArray, List.set_cons_zero, List.set_cons_succ]
      refine takeH (i := 1) (d := 50) (v := Value.int .i64 6) rfl rfl (by kernel_rfl) (by kernel_rfl) (by kernel_rfl) (fun _ _ _ h => h) (Or.inl ⟨by kernel_rfl, by intro w hSw; (try dsimp only at hSw); go_simp⟩) hHeld ?_
      simp only [Act.put, List.setIfInBounds_toArray, List.set_cons_zero, List.set_cons_succ]
      refine takeH (i := 2) (d := 51) (v := Value.int .i64 6) rfl rfl (by kernel_rfl) (by kernel_rfl) (by kernel_rfl) (fun _ _ _ h => h) (Or.inl ⟨by kernel_rfl, by intro w hSw; (try dsimp only at hSw); go_simp⟩) hHeld ?_
      simp only [Act.put, List.setIfInBounds_toArray, List.set_cons_zero, List.set_cons_succ]
      refine takeH (i := 3) (d := 52) (v := Value.int .i64 (u : Int)) rfl rfl (by kernel_rfl) (by kernel_rfl) (by kernel_rfl) (fun _ _ _ h => h) (Or.inl ⟨by kernel_rfl, by intro w hSw; (try dsimp only at hSw); go_simp⟩) hHeld ?_
      simp only [Act.put, List.setIfInBounds_toArray, List.set_cons_zero, List.set_cons_succ]
      refine takeH (i := 4) (d := 53) (v := Value.pointer (some ⟨kb, 0, none⟩)) rfl rfl (by kernel_rfl) (by kernel_rfl) (by kernel_rfl) (fun _ _ _ h => h) (Or.inl ⟨by kernel_rfl, by intro w hSw; (try dsimp only at hSw); go_simp⟩) hHeld ?_
      simp only [Act.put, List.setIfInBounds_toArray, List.set_cons_zero, List.set_cons_succ]
      refine takeH (i := 5) (d := 54) (v := Value.pointer (some ⟨kb, 0, none⟩)) rfl rfl (by kernel_rfl) (by kernel_rfl) (by kernel_rfl) (fun _ _ _ h => h) (Or.inl ⟨by kernel_rfl, by intro w hSw; (try dsimp only at hSw); go_simp⟩) hHeld ?_
      simp only [Act.put, List.setIfInBounds_toArray, List.set_cons_zero, List.set_cons_succ]
      refine takeH (i := 6) (d := 55) (v := Value.pointer (some ⟨kb, 13, none⟩)) rfl rfl (by kernel_rfl) (by kernel_rfl) (by kernel_rfl) (fun _ _ _ h => h) (Or.inl ⟨by kernel_rfl, by intro w hSw; (try dsimp only at hSw); go_simp⟩) hHeld ?_
      simp only [Act.put, List.setIfInBounds_toArray, List.set_cons_zero, List.set_cons_succ]
      refine takeH (i := 7) (d := 56) (v := Value.int .i64 (M : Int)) rfl rfl (by kernel_rfl) (by kernel_rfl) (by kernel_rfl) (fun _ _ _ h => h) (Or.inl ⟨by kernel_rfl, by intro w hSw; (try dsimp only at hSw); go_simp⟩) hHeld ?_
      simp only [Act.put, List.setIfInBounds_toArray, List.set_cons_zero, List.set_cons_succ]
      refine takeH (i := 8) (d := 57) (v := Value.int .i64 (u : Int)) rfl rfl (by kernel_rfl) (by kernel_rfl) (by kernel_rfl) (fun _ _ _ h => h) (Or.inl ⟨by kernel_rfl, by intro w hSw; (try dsimp only at hSw); go_simp⟩) hHeld ?_
      simp only [Act.put, List.setIfInBounds_toArray, List.set_cons_zero, List.set_cons_succ]
      refine takeH (i := 9) (d := 58) (v := Value.int .i64 ((M - u : Nat) : Int)) rfl rfl (by kernel_rfl) (by kernel_rfl) (by kernel_rfl) (fun _ _ _ h => h) (Or.inl ⟨by kernel_rfl, by intro w hSw; (try dsimp only at hSw); go_simp⟩) hHeld ?_
      simp only [Act.put, List.setIfInBounds_toArray, List.set_cons_zero, List.set_cons_succ]
      refine takeH (i := 10) (d := 59) (v := Value.agg #[.int .i64 6, .int .i64 0, .int .i64 (u : Int), .int .i64 ((M - u : Nat) : Int), .int .u32 0]) rfl rfl (by kernel_rfl) (by kernel_rfl) (by kernel_rfl) (fun _ _ _ h => h) (Or.inl ⟨by kernel_rfl, by intro w hSw; (try dsimp only at hSw); go_simp⟩) hHeld ?_
      simp only [Act.put, List.setIfInBounds_toArray, List.set_cons_zero, List.set_cons_succ]
      refine takeH (i := 11) (d := 60) (v := Value.pointer (some ⟨kb, 0, none⟩)) rfl rfl (by kernel_rfl) (by kernel_rfl) (by kernel_rfl) (fun _ _ _ h => h) (Or.inl ⟨by kernel_rfl, by intro w hSw; (try dsimp only at hSw); go_simp⟩) hHeld ?_
      simp only [Act.put, List.setIfInBounds_toArray, List.set_cons_zero, List.set_cons_succ]
      refine takeH (i := 12) (d := 61) (v := Value.pointer (some ⟨kb, 14, none⟩)) rfl rfl (by kernel_rfl) (by kernel_rfl) (by kernel_rfl) (fun _ _ _ h => h) (Or.inl ⟨by kernel_rfl, by intro w hSw; (try dsimp only at hSw); go_simp⟩) hHeld ?_
      simp only [Act.put, List.setIfInBounds_toArray, List.set_cons_zero, List.set_cons_succ]
      refine takeH (i := 13) (d := 62) (v := Value.pointer (some ⟨kb, 44, none⟩)) rfl rfl (by kernel_rfl) (by kernel_rfl) (by kernel_rfl) (fun _ _ _ h => h) (Or.inl ⟨by kernel_rfl, by intro w hSw; (try dsimp only at hSw); go_simp⟩) hHeld ?_
      simp only [Act.put, List.setIfInBounds_toArray, List.set_cons_zero, List.set_cons_succ]
      refine wpAnyH_ready (rs := [14]) (by kernel_rfl) (by simp) ?_
      refine readySkip (i := 14) (w' := w5.drew.setCells kb 44 [.int .i64 6, .int .i64 0, .int .i64 (u : Int), .int .i64 ((M - u : Nat) : Int), .int .u32 0]) rfl rfl (by kernel_rfl) (store_exec 88 (x := .tmp 62) (y := .tmp 59) rfl (c := #[.int .i64 6, .int .i64 0, .int .i64 (u : Int), .int .i64 ((M - u : Nat) : Int), .int .u32 0]) (by simp [Act.eval]) (by simp [Act.eval]) HTh.out info_en rfl) HK13.out ?_ AllReadyH.nil
      clear hHeld
      refine wpAnyH_done (by kernel_rfl) ?_ _
      go_wp2_with fail
      go_roundw
      case rel => exact ⟨7, by decide, rfl, HQ⟩
      case measure => simp [intOf]
    · -- part 7
      obtain ⟨c12, c13, c59⟩ := HI.out.cells
      have HD : Hid (Sx B kb im o (enN I 7) w0 (stN I 7) wr.drew) := St.below HI.out ⟨rfl, rfl, rfl, Nat.le_refl _, fun _ _ => rfl⟩
      have hL := HLn.out 7 (by decide)
      obtain ⟨N, hN⟩ : ∃ N, (stN I 7).1.length = N := ⟨_, rfl⟩
      have hu := beg_le 7 N
      obtain ⟨u, hu9⟩ : ∃ u, begN 7 N = u := ⟨_, rfl⟩
      rw [hN] at hL c13
      rw [hu9] at hu
      have HC0 : Hid (wr.drew.cell? ⟨kb, 13, none⟩ = some (.int .i64 (N : Int))) := hN ▸ HD.out.cells.2.1
      have HU : Hid (∀ W, Calls Tryz.prog 57 #[.int .i64 7, .int .i64 (N : Int)] W fun e w' => ∃ v, e = .returned v ∧ v = .int .i64 (u : Int) ∧ w' = W) := fun W => (beginX (p := 7) (a := N) (by omega) W).mono (fun e w' h => ⟨_, h.1, by rw [hu9], h.2⟩)
      have hsub : IntKind.i64.wrap ((u : Int) - (N : Int)) = ((u - N : Nat) : Int) := by rw [IntKind.wrap_i64]; omega
      have HZ : Hid (Calls Tryz.prog 56 #[.pointer (some ⟨kb, 0, none⟩), .int .i64 ((u - N : Nat) : Int)] wr.drew fun e w' => ∃ v, e = .returned v ∧ v = .tuple #[] ∧ Sx B kb im o (enN I 7) w0 (zerosS (u - N) (stN I 7)) w') := (zerosX HD.out (c := u - N) (by rw [hN]; omega)).mono (fun e w' h => ⟨_, h.1, rfl, h.2⟩)
      have HZl : Hid ((zerosS (u - N) (stN I 7)).1.length = u) := show _ = _ by rw [zeros_len, hN]; omega
      have HSe : Hid (secS I 7 (zerosS (u - N) (stN I 7)) = stN I 8) := show secS I 7 (zerosS (u - N) (stN I 7)) = secS I 7 (zerosS (begN 7 (stN I 7).1.length - (stN I 7).1.length) (stN I 7)) by rw [hN, hu9]
      have HFn : Hid (fstN I 7 = u) := show _ = _ by rw [fstN, hN, hu9]
      have hx9 : ∀ W, (Instr.index 123 (.agg (fun9 kb)) (.int .i64 7)).run Tryz.prog W = .ok (.func (.func 54) #[.pointer (some ⟨kb, 0, none⟩)] #[]) W := fun9_at7 kb
      clear HD hN hu9 HI
      go_wp2_with fail
      refine regionJ (fun w' => w'.cell? ⟨kb, 13, none⟩ = some (.int .i64 (N : Int))) 12 (by kernel_rfl) (by kernel_rfl) HC0.out (fun hS hA => ?_)
      refine takeJ (i := 0) (d := 30) (Value.pointer (some ⟨kb, 0, none⟩)) hA (by decide) rfl rfl (by kernel_rfl) (by kernel_rfl) (by kernel_rfl) (by kernel_rfl) (by kernel_rfl) (fun _ _ _ h => h) hS (by rfl) (fun wz9 hz => ?_) ?_
      · (try dsimp only at hz); go_simp
      simp only [Act.put, List.setIfInBounds_toArray, List.set_cons_zero, List.set_cons_succ]
      refine takeJ (i := 1) (d := 31) (Value.int .i64 7) hA (by decide) rfl rfl (by kernel_rfl) (by kernel_rfl) (by kernel_rfl) (by kernel_rfl) (by kernel_rfl) (fun _ _ _ h => h) hS (by rfl) (fun wz9 hz => ?_) ?_
      · (try dsimp only at hz); go_simp
      simp only [Act.put, List.setIfInBounds_toArray, List.set_cons_zero, List.set_cons_succ]
      refine takeJ (i := 2) (d := 32) (Value.pointer (some ⟨kb, 0, none⟩)) hA (by decide) rfl rfl (by kernel_rfl) (by kernel_rfl) (by kernel_rfl) (by kernel_rfl) (by kernel_rfl) (fun _ _ _ h => h) hS (by rfl) (fun wz9 hz => ?_) ?_
      · (try dsimp only at hz); go_simp
      simp only [Act.put, List.setIfInBounds_toArray, List.set_cons_zero, List.set_cons_succ]
      refine takeJ (i := 3) (d := 33) (Value.pointer (some ⟨kb, 0, none⟩)) hA (by decide) rfl rfl (by kernel_rfl) (by kernel_rfl) (by kernel_rfl) (by kernel_rfl) (by kernel_rfl) (fun _ _ _ h => h) hS (by rfl) (fun wz9 hz => ?_) ?_
      · (try dsimp only at hz); go_simp
      simp only [Act.put, List.setIfInBounds_toArray, List.set_cons_zero, List.set_cons_succ]
      refine takeJ (i := 4) (d := 34) (Value.pointer (some ⟨kb, 13, none⟩)) hA (by decide) rfl rfl (by kernel_rfl) (by kernel_rfl) (by kernel_rfl) (by kernel_rfl) (by kernel_rfl) (fun _ _ _ h => h) hS (by rfl) (fun wz9 hz => ?_) ?_
      · (try dsimp only at hz); go_simp
      simp only [Act.put, List.setIfInBounds_toArray, List.set_cons_zero, List.set_cons_succ]
      refine takeJ (i := 5) (d := 35) (Value.int .i64 (N : Int)) hA (by decide) rfl rfl (by kernel_rfl) (by kernel_rfl) (by kernel_rfl) (by kernel_rfl) (by kernel_rfl) (fun _ _ _ h => h) hS (by rfl) (fun wz9 hz => ?_) ?_
      · (try dsimp only at hz); go_simp
      simp only [Act.put, List.setIfInBounds_toArray, List.set_cons_zero, List.set_cons_succ]
      refine takeJ (i := 7) (d := 37) (Value.pointer (some ⟨kb, 0, none⟩)) hA (by decide) rfl rfl (by kernel_rfl) (by kernel_rfl) (by kernel_rfl) (by kernel_rfl) (by kernel_rfl) (fun _ _ _ h => h) hS (by rfl) (fun wz9 hz => ?_) ?_
      · (try dsimp only at hz); go_simp
      simp only [Act.put, List.setIfInBounds_toArray, List.set_cons_zero, List.set_cons_succ]
      refine takeJ (i := 8) (d := 38) (Value.pointer (some ⟨kb, 0, none⟩)) hA (by decide) rfl rfl (by kernel_rfl) (by kernel_rfl) (by kernel_rfl) (by kernel_rfl) (by kernel_rfl) (fun _ _ _ h => h) hS (by rfl) (fun wz9 hz => ?_) ?_
      · (try dsimp only at hz); go_simp
      simp only [Act.put, List.setIfInBounds_toArray, List.set_cons_zero, List.set_cons_succ]
      refine takeJ (i := 9) (d := 39) (Value.pointer (some ⟨kb, 13, none⟩)) hA (by decide) rfl rfl (by kernel_rfl) (by kernel_rfl) (by kernel_rfl) (by kernel_rfl) (by kernel_rfl) (fun _ _ _ h => h) hS (by rfl) (fun wz9 hz => ?_) ?_
      · (try dsimp only at hz); go_simp
      simp only [Act.put, List.setIfInBounds_toArray, List.set_cons_zero, List.set_cons_succ]
      refine takeJ (i := 10) (d := 40) (Value.int .i64 (N : Int)) hA (by decide) rfl rfl (by kernel_rfl) (by kernel_rfl) (by kernel_rfl) (by kernel_rfl) (by kernel_rfl) (fun _ _ _ h => h) hS (by rfl) (fun wz9 hz => ?_) ?_
      · (try dsimp only at hz); go_simp
      simp only [Act.put, List.setIfInBounds_toArray, List.set_cons_zero, List.set_cons_succ]
      refine callJ (i := 6) (d := 36) (by kernel_rfl) rfl rfl (by rfl) 57 _ _ rfl HEn1.out _ (by simp [Act.eval]) (HU.out _) (fun v w' hR _ _ => ?_) (fun v x1 hR => ?_)
      · obtain ⟨_, rfl⟩ := hR
        exact hS
      obtain ⟨rfl, rfl⟩ := hR
      simp only [Act.put, List.setIfInBounds_toArray, List.set_cons_zero, List.set_cons_succ]
      refine takeJ (i := 11) (d := 41) (Value.int .i64 ((u - N : Nat) : Int)) hA (by decide) rfl rfl (by kernel_rfl) (by kernel_rfl) (by kernel_rfl) (by kernel_rfl) (by kernel_rfl) (fun _ _ _ h => h) hS (by rfl) (fun wz hz => ?_) ?_
      · clear hz; go_simp
      simp only [Act.put, List.setIfInBounds_toArray, List.set_cons_zero, List.set_cons_succ]
      refine callJ (i := 12) (d := 42) (by kernel_rfl) rfl rfl (by rfl) 56 _ _ rfl HEn2.out _ (by simp [Act.eval]) HZ.out (fun v w' hR h _ => absurd rfl h) (fun v x2 hR => ?_)
      obtain ⟨rfl, h9⟩ := hR
      obtain ⟨d12, d13, d59⟩ := St.cells h9
      rw [HZl.out] at d13
      have HSc := Lib.hid (sec7X HIm.out h9 (by rw [HZl.out]; have := HSz.out; omega))
      rw [HSe.out] at HSc
      clear h9 HZ hS HZl HSe
      simp only [Act.put, List.setIfInBounds_toArray, List.set_cons_zero, List.set_cons_succ]
      refine doneJ (by kernel_rfl) ?_ _
      go_wp2_with fail
      refine HSc.out.mono ?_
      rintro e w5 ⟨rfl, h5⟩
      have hL5 := HLn.out 8 (by decide)
      obtain ⟨M, hM⟩ : ∃ M, (stN I 8).1.length = M := ⟨_, rfl⟩
      have HMz : Hid ((stN I 8).1.length = M) := hM
      have HMu : Hid (u ≤ M) := show _ ≤ _ by
        have h9 : fstN I 7 ≤ (stN I 8).1.length := fst_le I 7 (by decide)
        rw [hM, HFn.out] at h9
        exact h9
      have hMu := HMu.out
      rw [hM] at hL5
      obtain ⟨k12, k13, k59⟩ := St.cells h5
      rw [hM] at k13
      have hs5 : IntKind.i64.wrap ((M : Int) - (u : Int)) = ((M - u : Nat) : Int) := by rw [IntKind.wrap_i64]; omega
      have e0 : w5.cell? ⟨kb, 49, none⟩ = some (.int .i64 0) := (St.cell h5 49).trans ((lyC_en (i := 35) h5.him h5.hen (by decide)).trans rfl)
      have z0 := St.free h5 49
      have e1 : w5.cell? ⟨kb, 50, none⟩ = some (.int .i64 0) := (St.cell h5 50).trans ((lyC_en (i := 36) h5.him h5.hen (by decide)).trans rfl)
      have z1 := St.free h5 50
      have e2 : w5.cell? ⟨kb, 51, none⟩ = some (.int .i64 0) := (St.cell h5 51).trans ((lyC_en (i := 37) h5.him h5.hen (by decide)).trans rfl)
      have z2 := St.free h5 51
      have e3 : w5.cell? ⟨kb, 52, none⟩ = some (.int .i64 0) := (St.cell h5 52).trans ((lyC_en (i := 38) h5.him h5.hen (by decide)).trans rfl)
      have z3 := St.free h5 52
      have e4 : w5.cell? ⟨kb, 53, none⟩ = some (.int .u32 0) := (St.cell h5 53).trans ((lyC_en (i := 39) h5.him h5.hen (by decide)).trans rfl)
      have z4 := St.free h5 53
      have hd5 : St B kb im o (enN I 7) w0 (stN I 8).1.length (stN I 8).1 (stN I 8).2 w5.drew := St.below h5 ⟨rfl, rfl, rfl, Nat.le_refl _, fun _ _ => rfl⟩
      have q0 := St.set hd5 (lyC_setEn (i := 35) (im := im) (o := o) hd5.him hd5.hen (by decide) (.int .i64 7)) (by simp [enN_len])
      have q1 := St.set q0 (lyC_setEn (i := 36) (im := im) (o := o) q0.him q0.hen (by decide) (.int .i64 0)) (by simp [enN_len])
      have q2 := St.set q1 (lyC_setEn (i := 37) (im := im) (o := o) q1.him q1.hen (by decide) (.int .i64 (u : Int))) (by simp [enN_len])
      have q3 := St.set q2 (lyC_setEn (i := 38) (im := im) (o := o) q2.him q2.hen (by decide) (.int .i64 ((M - u : Nat) : Int))) (by simp [enN_len])
      have q4 := St.set q3 (lyC_setEn (i := 39) (im := im) (o := o) q3.him q3.hen (by decide) (.int .u32 0)) (by simp [enN_len])
      have HQ : Hid (St B kb im o _ w0 (stN I 8).1.length (stN I 8).1 (stN I 8).2 (w5.drew.setCells kb 49 [.int .i64 7, .int .i64 0, .int .i64 (u : Int), .int .i64 ((M - u : Nat) : Int), .int .u32 0])) := Lib.hid q4
      have k13d : w5.drew.cell? ⟨kb, 13, none⟩ = some (.int .i64 (M : Int)) := k13
      have HTh : Hid (w5.drew.there kb 49 5) := fun j hj => by
        rcases (by omega : j = 0 ∨ j = 1 ∨ j = 2 ∨ j = 3 ∨ j = 4) with rfl | rfl | rfl | rfl | rfl
        · exact ⟨by show (w5.cell? _).isSome = true; rw [e0]; rfl, z0⟩
        · exact ⟨by show (w5.cell? _).isSome = true; rw [e1]; rfl, z1⟩
        · exact ⟨by show (w5.cell? _).isSome = true; rw [e2]; rfl, z2⟩
        · exact ⟨by show (w5.cell? _).isSome = true; rw [e3]; rfl, z3⟩
        · exact ⟨by show (w5.cell? _).isSome = true; rw [e4]; rfl, z4⟩
      have HEe : Hid ((((((enN I 7).set 35 (.int .i64 7)).set 36 (.int .i64 0)).set 37 (.int .i64 (u : Int))).set 38 (.int .i64 ((M - u : Nat) : Int))).set 39 (.int .u32 0) = enN I 8) := show _ = _ by
        have hl : lenN I 7 = M - u := by show (stN I 8).1.length - fstN I 7 = _; rw [hM, HFn.out]
        rw [← hl, ← HFn.out]
        rfl
      rw [HEe.out] at HQ
      have HK13 : Hid ((w5.drew.setCells kb 49 [.int .i64 7, .int .i64 0, .int .i64 (u : Int), .int .i64 ((M - u : Nat) : Int), .int .u32 0]).cell? ⟨kb, 13, none⟩ = some (.int .i64 (M : Int))) := by
        have := HQ.out.cells.2.1
        rw [hM] at this
        exact Lib.hid this
      clear q0 q1 q2 q3 q4 h5 hd5 HEe hM
      go_wp2_with fail
      refine wp_region_held_drew (S := fun W => W.cell? ⟨kb, 13, none⟩ = some (.int .i64 (M : Int))) (by kernel_rfl) k13d (fun hHeld => ?_)
      simp only [List.size_toArray, List.length_cons, List.length_nil]
      refine takeH (i := 0) (d := 49) (v := Value.pointer (some ⟨kb, 0, none⟩)) rfl rfl (by kernel_rfl) (by kernel_rfl) (by kernel_rfl) (fun _ _ _ h => h) (Or.inl ⟨by kernel_rfl, by intro w hSw; (try dsimp only at hSw); go_simp⟩) hHeld ?_
      simp only [Act.put, List.setIfInBounds_toArray, List.set_cons_zero, List.set_cons_succ]
      refine takeH (i := 1) (d := 50) (v := Value.int .i64 7) rfl rfl (by kernel_rfl) (by kernel_rfl) (by kernel_rfl) (fun _ _ _ h => h) (Or.inl ⟨by kernel_rfl, by intro w hSw; (try dsimp only at hSw); go_simp⟩) hHeld ?_
      simp only [Act.put, List.setIfInBounds_toArray, List.set_cons_zero, List.set_cons_succ]
      refine takeH (i := 2) (d := 51) (v := Value.int .i64 7) rfl rfl (by kernel_rfl) (by kernel_rfl) (by kernel_rfl) (fun _ _ _ h => h) (Or.inl ⟨by kernel_rfl, by intro w hSw; (try dsimp only at hSw); go_simp⟩) hHeld ?_
      simp only [Act.put, List.setIfInBounds_toArray, List.set_cons_zero, List.set_cons_succ]
      refine takeH (i := 3) (d := 52) (v := Value.int .i64 (u : Int)) rfl rfl (by kernel_rfl) (by kernel_rfl) (by kernel_rfl) (fun _ _ _ h => h) (Or.inl ⟨by kernel_rfl, by intro w hSw; (try dsimp only at hSw); go_simp⟩) hHeld ?_
      simp only [Act.put, List.setIfInBounds_toArray, List.set_cons_zero, List.set_cons_succ]
      refine takeH (i := 4) (d := 53) (v := Value.pointer (some ⟨kb, 0, none⟩)) rfl rfl (by kernel_rfl) (by kernel_rfl) (by kernel_rfl) (fun _ _ _ h => h) (Or.inl ⟨by kernel_rfl, by intro w hSw; (try dsimp only at hSw); go_simp⟩) hHeld ?_
      simp only [Act.put, List.setIfInBounds_toArray, List.set_cons_zero, List.set_cons_succ]
      refine takeH (i := 5) (d := 54) (v := Value.pointer (some ⟨kb, 0, none⟩)) rfl rfl (by kernel_rfl) (by kernel_rfl) (by kernel_rfl) (fun _ _ _ h => h) (Or.inl ⟨by kernel_rfl, by intro w hSw; (try dsimp only at hSw); go_simp⟩) hHeld ?_
      simp only [Act.put, List.setIfInBounds_toArray, List.set_cons_zero, List.set_cons_succ]
      refine takeH (i := 6) (d := 55) (v := Value.pointer (some ⟨kb, 13, none⟩)) rfl rfl (by kernel_rfl) (by kernel_rfl) (by kernel_rfl) (fun _ _ _ h => h) (Or.inl ⟨by kernel_rfl, by intro w hSw; (try dsimp only at hSw); go_simp⟩) hHeld ?_
      simp only [Act.put, List.setIfInBounds_toArray, List.set_cons_zero, List.set_cons_succ]
      refine takeH (i := 7) (d := 56) (v := Value.int .i64 (M : Int)) rfl rfl (by kernel_rfl) (by kernel_rfl) (by kernel_rfl) (fun _ _ _ h => h) (Or.inl ⟨by kernel_rfl, by intro w hSw; (try dsimp only at hSw); go_simp⟩) hHeld ?_
      simp only [Act.put, List.setIfInBounds_toArray, List.set_cons_zero, List.set_cons_succ]
      refine takeH (i := 8) (d := 57) (v := Value.int .i64 (u : Int)) rfl rfl (by kernel_rfl) (by kernel_rfl) (by kernel_rfl) (fun _ _ _ h => h) (Or.inl ⟨by kernel_rfl, by intro w hSw; (try dsimp only at hSw); go_simp⟩) hHeld ?_
      simp only [Act.put, List.setIfInBounds_toArray, List.set_cons_zero, List.set_cons_succ]
      refine takeH (i := 9) (d := 58) (v := Value.int .i64 ((M - u : Nat) : Int)) rfl rfl (by kernel_rfl) (by kernel_rfl) (by kernel_rfl) (fun _ _ _ h => h) (Or.inl ⟨by kernel_rfl, by intro w hSw; (try dsimp only at hSw); go_simp⟩) hHeld ?_
      simp only [Act.put, List.setIfInBounds_toArray, List.set_cons_zero, List.set_cons_succ]
      refine takeH (i := 10) (d := 59) (v := Value.agg #[.int .i64 7, .int .i64 0, .int .i64 (u : Int), .int .i64 ((M - u : Nat) : Int), .int .u32 0]) rfl rfl (by kernel_rfl) (by kernel_rfl) (by kernel_rfl) (fun _ _ _ h => h) (Or.inl ⟨by kernel_rfl, by intro w hSw; (try dsimp only at hSw); go_simp⟩) hHeld ?_
      simp only [Act.put, List.setIfInBounds_toArray, List.set_cons_zero, List.set_cons_succ]
      refine takeH (i := 11) (d := 60) (v := Value.pointer (some ⟨kb, 0, none⟩)) rfl rfl (by kernel_rfl) (by kernel_rfl) (by kernel_rfl) (fun _ _ _ h => h) (Or.inl ⟨by kernel_rfl, by intro w hSw; (try dsimp only at hSw); go_simp⟩) hHeld ?_
      simp only [Act.put, List.setIfInBounds_toArray, List.set_cons_zero, List.set_cons_succ]
      refine takeH (i := 12) (d := 61) (v := Value.pointer (some ⟨kb, 14, none⟩)) rfl rfl (by kernel_rfl) (by kernel_rfl) (by kernel_rfl) (fun _ _ _ h => h) (Or.inl ⟨by kernel_rfl, by intro w hSw; (try dsimp only at hSw); go_simp⟩) hHeld ?_
      simp only [Act.put, List.setIfInBounds_toArray, List.set_cons_zero, List.set_cons_succ]
      refine takeH (i := 13) (d := 62) (v := Value.pointer (some ⟨kb, 49, none⟩)) rfl rfl (by kernel_rfl) (by kernel_rfl) (by kernel_rfl) (fun _ _ _ h => h) (Or.inl ⟨by kernel_rfl, by intro w hSw; (try dsimp only at hSw); go_simp⟩) hHeld ?_
      simp only [Act.put, List.setIfInBounds_toArray, List.set_cons_zero, List.set_cons_succ]
      refine wpAnyH_ready (rs := [14]) (by kernel_rfl) (by simp) ?_
      refine readySkip (i := 14) (w' := w5.drew.setCells kb 49 [.int .i64 7, .int .i64 0, .int .i64 (u : Int), .int .i64 ((M - u : Nat) : Int), .int .u32 0]) rfl rfl (by kernel_rfl) (store_exec 88 (x := .tmp 62) (y := .tmp 59) rfl (c := #[.int .i64 7, .int .i64 0, .int .i64 (u : Int), .int .i64 ((M - u : Nat) : Int), .int .u32 0]) (by simp [Act.eval]) (by simp [Act.eval]) HTh.out info_en rfl) HK13.out ?_ AllReadyH.nil
      clear hHeld
      refine wpAnyH_done (by kernel_rfl) ?_ _
      go_wp2_with fail
      go_roundw
      case rel => exact ⟨8, by decide, rfl, HQ⟩
      case measure => simp [intOf]
    · -- part 8
      obtain ⟨c12, c13, c59⟩ := HI.out.cells
      have HD : Hid (Sx B kb im o (enN I 8) w0 (stN I 8) wr.drew) := St.below HI.out ⟨rfl, rfl, rfl, Nat.le_refl _, fun _ _ => rfl⟩
      have hL := HLn.out 8 (by decide)
      obtain ⟨N, hN⟩ : ∃ N, (stN I 8).1.length = N := ⟨_, rfl⟩
      have hu := beg_le 8 N
      obtain ⟨u, hu9⟩ : ∃ u, begN 8 N = u := ⟨_, rfl⟩
      rw [hN] at hL c13
      rw [hu9] at hu
      have HC0 : Hid (wr.drew.cell? ⟨kb, 13, none⟩ = some (.int .i64 (N : Int))) := hN ▸ HD.out.cells.2.1
      have HU : Hid (∀ W, Calls Tryz.prog 57 #[.int .i64 8, .int .i64 (N : Int)] W fun e w' => ∃ v, e = .returned v ∧ v = .int .i64 (u : Int) ∧ w' = W) := fun W => (beginX (p := 8) (a := N) (by omega) W).mono (fun e w' h => ⟨_, h.1, by rw [hu9], h.2⟩)
      have hsub : IntKind.i64.wrap ((u : Int) - (N : Int)) = ((u - N : Nat) : Int) := by rw [IntKind.wrap_i64]; omega
      have HZ : Hid (Calls Tryz.prog 56 #[.pointer (some ⟨kb, 0, none⟩), .int .i64 ((u - N : Nat) : Int)] wr.drew fun e w' => ∃ v, e = .returned v ∧ v = .tuple #[] ∧ Sx B kb im o (enN I 8) w0 (zerosS (u - N) (stN I 8)) w') := (zerosX HD.out (c := u - N) (by rw [hN]; omega)).mono (fun e w' h => ⟨_, h.1, rfl, h.2⟩)
      have HZl : Hid ((zerosS (u - N) (stN I 8)).1.length = u) := show _ = _ by rw [zeros_len, hN]; omega
      have HSe : Hid (secS I 8 (zerosS (u - N) (stN I 8)) = stN I 9) := show secS I 8 (zerosS (u - N) (stN I 8)) = secS I 8 (zerosS (begN 8 (stN I 8).1.length - (stN I 8).1.length) (stN I 8)) by rw [hN, hu9]
      have HFn : Hid (fstN I 8 = u) := show _ = _ by rw [fstN, hN, hu9]
      have hx9 : ∀ W, (Instr.index 123 (.agg (fun9 kb)) (.int .i64 8)).run Tryz.prog W = .ok (.func (.func 55) #[.pointer (some ⟨kb, 0, none⟩)] #[]) W := fun9_at8 kb
      clear HD hN hu9 HI
      go_wp2_with fail
      refine regionJ (fun w' => w'.cell? ⟨kb, 13, none⟩ = some (.int .i64 (N : Int))) 12 (by kernel_rfl) (by kernel_rfl) HC0.out (fun hS hA => ?_)
      refine takeJ (i := 0) (d := 30) (Value.pointer (some ⟨kb, 0, none⟩)) hA (by decide) rfl rfl (by kernel_rfl) (by kernel_rfl) (by kernel_rfl) (by kernel_rfl) (by kernel_rfl) (fun _ _ _ h => h) hS (by rfl) (fun wz9 hz => ?_) ?_
      · (try dsimp only at hz); go_simp
      simp only [Act.put, List.setIfInBounds_toArray, List.set_cons_zero, List.set_cons_succ]
      refine takeJ (i := 1) (d := 31) (Value.int .i64 8) hA (by decide) rfl rfl (by kernel_rfl) (by kernel_rfl) (by kernel_rfl) (by kernel_rfl) (by kernel_rfl) (fun _ _ _ h => h) hS (by rfl) (fun wz9 hz => ?_) ?_
      · (try dsimp only at hz); go_simp
      simp only [Act.put, List.setIfInBounds_toArray, List.set_cons_zero, List.set_cons_succ]
      refine takeJ (i := 2) (d := 32) (Value.pointer (some ⟨kb, 0, none⟩)) hA (by decide) rfl rfl (by kernel_rfl) (by kernel_rfl) (by kernel_rfl) (by kernel_rfl) (by kernel_rfl) (fun _ _ _ h => h) hS (by rfl) (fun wz9 hz => ?_) ?_
      · (try dsimp only at hz); go_simp
      simp only [Act.put, List.setIfInBounds_toArray, List.set_cons_zero, List.set_cons_succ]
      refine takeJ (i := 3) (d := 33) (Value.pointer (some ⟨kb, 0, none⟩)) hA (by decide) rfl rfl (by kernel_rfl) (by kernel_rfl) (by kernel_rfl) (by kernel_rfl) (by kernel_rfl) (fun _ _ _ h => h) hS (by rfl) (fun wz9 hz => ?_) ?_
      · (try dsimp only at hz); go_simp
      simp only [Act.put, List.setIfInBounds_toArray, List.set_cons_zero, List.set_cons_succ]
      refine takeJ (i := 4) (d := 34) (Value.pointer (some ⟨kb, 13, none⟩)) hA (by decide) rfl rfl (by kernel_rfl) (by kernel_rfl) (by kernel_rfl) (by kernel_rfl) (by kernel_rfl) (fun _ _ _ h => h) hS (by rfl) (fun wz9 hz => ?_) ?_
      · (try dsimp only at hz); go_simp
      simp only [Act.put, List.setIfInBounds_toArray, List.set_cons_zero, List.set_cons_succ]
      refine takeJ (i := 5) (d := 35) (Value.int .i64 (N : Int)) hA (by decide) rfl rfl (by kernel_rfl) (by kernel_rfl) (by kernel_rfl) (by kernel_rfl) (by kernel_rfl) (fun _ _ _ h => h) hS (by rfl) (fun wz9 hz => ?_) ?_
      · (try dsimp only at hz); go_simp
      simp only [Act.put, List.setIfInBounds_toArray, List.set_cons_zero, List.set_cons_succ]
      refine takeJ (i := 7) (d := 37) (Value.pointer (some ⟨kb, 0, none⟩)) hA (by decide) rfl rfl (by kernel_rfl) (by kernel_rfl) (by kernel_rfl) (by kernel_rfl) (by kernel_rfl) (fun _ _ _ h => h) hS (by rfl) (fun wz9 hz => ?_) ?_
      · (try dsimp only at hz); go_simp
      simp only [Act.put, List.setIfInBounds_toArray, List.set_cons_zero, List.set_cons_succ]
      refine takeJ (i := 8) (d := 38) (Value.pointer (some ⟨kb, 0, none⟩)) hA (by decide) rfl rfl (by kernel_rfl) (by kernel_rfl) (by kernel_rfl) (by kernel_rfl) (by kernel_rfl) (fun _ _ _ h => h) hS (by rfl) (fun wz9 hz => ?_) ?_
      · (try dsimp only at hz); go_simp
      simp only [Act.put, List.setIfInBounds_toArray, List.set_cons_zero, List.set_cons_succ]
      refine takeJ (i := 9) (d := 39) (Value.pointer (some ⟨kb, 13, none⟩)) hA (by decide) rfl rfl (by kernel_rfl) (by kernel_rfl) (by kernel_rfl) (by kernel_rfl) (by kernel_rfl) (fun _ _ _ h => h) hS (by rfl) (fun wz9 hz => ?_) ?_
      · (try dsimp only at hz); go_simp
      simp only [Act.put, List.setIfInBounds_toArray, List.set_cons_zero, List.set_cons_succ]
      refine takeJ (i := 10) (d := 40) (Value.int .i64 (N : Int)) hA (by decide) rfl rfl (by kernel_rfl) (by kernel_rfl) (by kernel_rfl) (by kernel_rfl) (by kernel_rfl) (fun _ _ _ h => h) hS (by rfl) (fun wz9 hz => ?_) ?_
      · (try dsimp only at hz); go_simp
      simp only [Act.put, List.setIfInBounds_toArray, List.set_cons_zero, List.set_cons_succ]
      refine callJ (i := 6) (d := 36) (by kernel_rfl) rfl rfl (by rfl) 57 _ _ rfl HEn1.out _ (by simp [Act.eval]) (HU.out _) (fun v w' hR _ _ => ?_) (fun v x1 hR => ?_)
      · obtain ⟨_, rfl⟩ := hR
        exact hS
      obtain ⟨rfl, rfl⟩ := hR
      simp only [Act.put, List.setIfInBounds_toArray, List.set_cons_zero, List.set_cons_succ]
      refine takeJ (i := 11) (d := 41) (Value.int .i64 ((u - N : Nat) : Int)) hA (by decide) rfl rfl (by kernel_rfl) (by kernel_rfl) (by kernel_rfl) (by kernel_rfl) (by kernel_rfl) (fun _ _ _ h => h) hS (by rfl) (fun wz hz => ?_) ?_
      · clear hz; go_simp
      simp only [Act.put, List.setIfInBounds_toArray, List.set_cons_zero, List.set_cons_succ]
      refine callJ (i := 12) (d := 42) (by kernel_rfl) rfl rfl (by rfl) 56 _ _ rfl HEn2.out _ (by simp [Act.eval]) HZ.out (fun v w' hR h _ => absurd rfl h) (fun v x2 hR => ?_)
      obtain ⟨rfl, h9⟩ := hR
      obtain ⟨d12, d13, d59⟩ := St.cells h9
      rw [HZl.out] at d13
      have HSc := Lib.hid (sec8X HIm.out h9 (by rw [HZl.out]; have := HSz.out; omega))
      rw [HSe.out] at HSc
      clear h9 HZ hS HZl HSe
      simp only [Act.put, List.setIfInBounds_toArray, List.set_cons_zero, List.set_cons_succ]
      refine doneJ (by kernel_rfl) ?_ _
      go_wp2_with fail
      refine HSc.out.mono ?_
      rintro e w5 ⟨rfl, h5⟩
      have hL5 := HLn.out 9 (by decide)
      obtain ⟨M, hM⟩ : ∃ M, (stN I 9).1.length = M := ⟨_, rfl⟩
      have HMz : Hid ((stN I 9).1.length = M) := hM
      have HMu : Hid (u ≤ M) := show _ ≤ _ by
        have h9 : fstN I 8 ≤ (stN I 9).1.length := fst_le I 8 (by decide)
        rw [hM, HFn.out] at h9
        exact h9
      have hMu := HMu.out
      rw [hM] at hL5
      obtain ⟨k12, k13, k59⟩ := St.cells h5
      rw [hM] at k13
      have hs5 : IntKind.i64.wrap ((M : Int) - (u : Int)) = ((M - u : Nat) : Int) := by rw [IntKind.wrap_i64]; omega
      have e0 : w5.cell? ⟨kb, 54, none⟩ = some (.int .i64 0) := (St.cell h5 54).trans ((lyC_en (i := 40) h5.him h5.hen (by decide)).trans rfl)
      have z0 := St.free h5 54
      have e1 : w5.cell? ⟨kb, 55, none⟩ = some (.int .i64 0) := (St.cell h5 55).trans ((lyC_en (i := 41) h5.him h5.hen (by decide)).trans rfl)
      have z1 := St.free h5 55
      have e2 : w5.cell? ⟨kb, 56, none⟩ = some (.int .i64 0) := (St.cell h5 56).trans ((lyC_en (i := 42) h5.him h5.hen (by decide)).trans rfl)
      have z2 := St.free h5 56
      have e3 : w5.cell? ⟨kb, 57, none⟩ = some (.int .i64 0) := (St.cell h5 57).trans ((lyC_en (i := 43) h5.him h5.hen (by decide)).trans rfl)
      have z3 := St.free h5 57
      have e4 : w5.cell? ⟨kb, 58, none⟩ = some (.int .u32 0) := (St.cell h5 58).trans ((lyC_en (i := 44) h5.him h5.hen (by decide)).trans rfl)
      have z4 := St.free h5 58
      have hd5 : St B kb im o (enN I 8) w0 (stN I 9).1.length (stN I 9).1 (stN I 9).2 w5.drew := St.below h5 ⟨rfl, rfl, rfl, Nat.le_refl _, fun _ _ => rfl⟩
      have q0 := St.set hd5 (lyC_setEn (i := 40) (im := im) (o := o) hd5.him hd5.hen (by decide) (.int .i64 8)) (by simp [enN_len])
      have q1 := St.set q0 (lyC_setEn (i := 41) (im := im) (o := o) q0.him q0.hen (by decide) (.int .i64 0)) (by simp [enN_len])
      have q2 := St.set q1 (lyC_setEn (i := 42) (im := im) (o := o) q1.him q1.hen (by decide) (.int .i64 (u : Int))) (by simp [enN_len])
      have q3 := St.set q2 (lyC_setEn (i := 43) (im := im) (o := o) q2.him q2.hen (by decide) (.int .i64 ((M - u : Nat) : Int))) (by simp [enN_len])
      have q4 := St.set q3 (lyC_setEn (i := 44) (im := im) (o := o) q3.him q3.hen (by decide) (.int .u32 0)) (by simp [enN_len])
      have HQ : Hid (St B kb im o _ w0 (stN I 9).1.length (stN I 9).1 (stN I 9).2 (w5.drew.setCells kb 54 [.int .i64 8, .int .i64 0, .int .i64 (u : Int), .int .i64 ((M - u : Nat) : Int), .int .u32 0])) := Lib.hid q4
      have k13d : w5.drew.cell? ⟨kb, 13, none⟩ = some (.int .i64 (M : Int)) := k13
      have HTh : Hid (w5.drew.there kb 54 5) := fun j hj => by
        rcases (by omega : j = 0 ∨ j = 1 ∨ j = 2 ∨ j = 3 ∨ j = 4) with rfl | rfl | rfl | rfl | rfl
        · exact ⟨by show (w5.cell? _).isSome = true; rw [e0]; rfl, z0⟩
        · exact ⟨by show (w5.cell? _).isSome = true; rw [e1]; rfl, z1⟩
        · exact ⟨by show (w5.cell? _).isSome = true; rw [e2]; rfl, z2⟩
        · exact ⟨by show (w5.cell? _).isSome = true; rw [e3]; rfl, z3⟩
        · exact ⟨by show (w5.cell? _).isSome = true; rw [e4]; rfl, z4⟩
      have HEe : Hid ((((((enN I 8).set 40 (.int .i64 8)).set 41 (.int .i64 0)).set 42 (.int .i64 (u : Int))).set 43 (.int .i64 ((M - u : Nat) : Int))).set 44 (.int .u32 0) = enN I 9) := show _ = _ by
        have hl : lenN I 8 = M - u := by show (stN I 9).1.length - fstN I 8 = _; rw [hM, HFn.out]
        rw [← hl, ← HFn.out]
        rfl
      rw [HEe.out] at HQ
      have HK13 : Hid ((w5.drew.setCells kb 54 [.int .i64 8, .int .i64 0, .int .i64 (u : Int), .int .i64 ((M - u : Nat) : Int), .int .u32 0]).cell? ⟨kb, 13, none⟩ = some (.int .i64 (M : Int))) := by
        have := HQ.out.cells.2.1
        rw [hM] at this
        exact Lib.hid this
      clear q0 q1 q2 q3 q4 h5 hd5 HEe hM
      go_wp2_with fail
      refine wp_region_held_drew (S := fun W => W.cell? ⟨kb, 13, none⟩ = some (.int .i64 (M : Int))) (by kernel_rfl) k13d (fun hHeld => ?_)
      simp only [List.size_toArray, List.length_cons, List.length_nil]
      refine takeH (i := 0) (d := 49) (v := Value.pointer (some ⟨kb, 0, none⟩)) rfl rfl (by kernel_rfl) (by kernel_rfl) (by kernel_rfl) (fun _ _ _ h => h) (Or.inl ⟨by kernel_rfl, by intro w hSw; (try dsimp only at hSw); go_simp⟩) hHeld ?_
      simp only [Act.put, List.setIfInBounds_toArray, List.set_cons_zero, List.set_cons_succ]
      refine takeH (i := 1) (d := 50) (v := Value.int .i64 8) rfl rfl (by kernel_rfl) (by kernel_rfl) (by kernel_rfl) (fun _ _ _ h => h) (Or.inl ⟨by kernel_rfl, by intro w hSw; (try dsimp only at hSw); go_simp⟩) hHeld ?_
      simp only [Act.put, List.setIfInBounds_toArray, List.set_cons_zero, List.set_cons_succ]
      refine takeH (i := 2) (d := 51) (v := Value.int .i64 8) rfl rfl (by kernel_rfl) (by kernel_rfl) (by kernel_rfl) (fun _ _ _ h => h) (Or.inl ⟨by kernel_rfl, by intro w hSw; (try dsimp only at hSw); go_simp⟩) hHeld ?_
      simp only [Act.put, List.setIfInBounds_toArray, List.set_cons_zero, List.set_cons_succ]
      refine takeH (i := 3) (d := 52) (v := Value.int .i64 (u : Int)) rfl rfl (by kernel_rfl) (by kernel_rfl) (by kernel_rfl) (fun _ _ _ h => h) (Or.inl ⟨by kernel_rfl, by intro w hSw; (try dsimp only at hSw); go_simp⟩) hHeld ?_
      simp only [Act.put, List.setIfInBounds_toArray, List.set_cons_zero, List.set_cons_succ]
      refine takeH (i := 4) (d := 53) (v := Value.pointer (some ⟨kb, 0, none⟩)) rfl rfl (by kernel_rfl) (by kernel_rfl) (by kernel_rfl) (fun _ _ _ h => h) (Or.inl ⟨by kernel_rfl, by intro w hSw; (try dsimp only at hSw); go_simp⟩) hHeld ?_
      simp only [Act.put, List.setIfInBounds_toArray, List.set_cons_zero, List.set_cons_succ]
      refine takeH (i := 5) (d := 54) (v := Value.pointer (some ⟨kb, 0, none⟩)) rfl rfl (by kernel_rfl) (by kernel_rfl) (by kernel_rfl) (fun _ _ _ h => h) (Or.inl ⟨by kernel_rfl, by intro w hSw; (try dsimp only at hSw); go_simp⟩) hHeld ?_
      simp only [Act.put, List.setIfInBounds_toArray, List.set_cons_zero, List.set_cons_succ]
      refine takeH (i := 6) (d := 55) (v := Value.pointer (some ⟨kb, 13, none⟩)) rfl rfl (by kernel_rfl) (by kernel_rfl) (by kernel_rfl) (fun _ _ _ h => h) (Or.inl ⟨by kernel_rfl, by intro w hSw; (try dsimp only at hSw); go_simp⟩) hHeld ?_
      simp only [Act.put, List.setIfInBounds_toArray, List.set_cons_zero, List.set_cons_succ]
      refine takeH (i := 7) (d := 56) (v := Value.int .i64 (M : Int)) rfl rfl (by kernel_rfl) (by kernel_rfl) (by kernel_rfl) (fun _ _ _ h => h) (Or.inl ⟨by kernel_rfl, by intro w hSw; (try dsimp only at hSw); go_simp⟩) hHeld ?_
      simp only [Act.put, List.setIfInBounds_toArray, List.set_cons_zero, List.set_cons_succ]
      refine takeH (i := 8) (d := 57) (v := Value.int .i64 (u : Int)) rfl rfl (by kernel_rfl) (by kernel_rfl) (by kernel_rfl) (fun _ _ _ h => h) (Or.inl ⟨by kernel_rfl, by intro w hSw; (try dsimp only at hSw); go_simp⟩) hHeld ?_
      simp only [Act.put, List.setIfInBounds_toArray, List.set_cons_zero, List.set_cons_succ]
      refine takeH (i := 9) (d := 58) (v := Value.int .i64 ((M - u : Nat) : Int)) rfl rfl (by kernel_rfl) (by kernel_rfl) (by kernel_rfl) (fun _ _ _ h => h) (Or.inl ⟨by kernel_rfl, by intro w hSw; (try dsimp only at hSw); go_simp⟩) hHeld ?_
      simp only [Act.put, List.setIfInBounds_toArray, List.set_cons_zero, List.set_cons_succ]
      refine takeH (i := 10) (d := 59) (v := Value.agg #[.int .i64 8, .int .i64 0, .int .i64 (u : Int), .int .i64 ((M - u : Nat) : Int), .int .u32 0]) rfl rfl (by kernel_rfl) (by kernel_rfl) (by kernel_rfl) (fun _ _ _ h => h) (Or.inl ⟨by kernel_rfl, by intro w hSw; (try dsimp only at hSw); go_simp⟩) hHeld ?_
      simp only [Act.put, List.setIfInBounds_toArray, List.set_cons_zero, List.set_cons_succ]
      refine takeH (i := 11) (d := 60) (v := Value.pointer (some ⟨kb, 0, none⟩)) rfl rfl (by kernel_rfl) (by kernel_rfl) (by kernel_rfl) (fun _ _ _ h => h) (Or.inl ⟨by kernel_rfl, by intro w hSw; (try dsimp only at hSw); go_simp⟩) hHeld ?_
      simp only [Act.put, List.setIfInBounds_toArray, List.set_cons_zero, List.set_cons_succ]
      refine takeH (i := 12) (d := 61) (v := Value.pointer (some ⟨kb, 14, none⟩)) rfl rfl (by kernel_rfl) (by kernel_rfl) (by kernel_rfl) (fun _ _ _ h => h) (Or.inl ⟨by kernel_rfl, by intro w hSw; (try dsimp only at hSw); go_simp⟩) hHeld ?_
      simp only [Act.put, List.setIfInBounds_toArray, List.set_cons_zero, List.set_cons_succ]
      refine takeH (i := 13) (d := 62) (v := Value.pointer (some ⟨kb, 54, none⟩)) rfl rfl (by kernel_rfl) (by kernel_rfl) (by kernel_rfl) (fun _ _ _ h => h) (Or.inl ⟨by kernel_rfl, by intro w hSw; (try dsimp only at hSw); go_simp⟩) hHeld ?_
      simp only [Act.put, List.setIfInBounds_toArray, List.set_cons_zero, List.set_cons_succ]
      refine wpAnyH_ready (rs := [14]) (by kernel_rfl) (by simp) ?_
      refine readySkip (i := 14) (w' := w5.drew.setCells kb 54 [.int .i64 8, .int .i64 0, .int .i64 (u : Int), .int .i64 ((M - u : Nat) : Int), .int .u32 0]) rfl rfl (by kernel_rfl) (store_exec 88 (x := .tmp 62) (y := .tmp 59) rfl (c := #[.int .i64 8, .int .i64 0, .int .i64 (u : Int), .int .i64 ((M - u : Nat) : Int), .int .u32 0]) (by simp [Act.eval]) (by simp [Act.eval]) HTh.out info_en rfl) HK13.out ?_ AllReadyH.nil
      clear hHeld
      refine wpAnyH_done (by kernel_rfl) ?_ _
      go_wp2_with fail
      go_roundw
      case rel => exact ⟨9, by decide, rfl, HQ⟩
      case measure => simp [intOf]
end
end Go.Proofs.YtmfkggngjeolcaaGreatDoor
