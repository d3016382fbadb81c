import Derived.Test.YtmfkggngjeolcaaGreatDoorPk14
import Derived.Test.YtmfkggngjeolcaaGreatDoorPk13
set_option linter.unusedSimpArgs false
set_option linter.unusedVariables false
set_option maxHeartbeats 8000000
set_option maxRecDepth 100000
namespace Go.Proofs.YtmfkggngjeolcaaGreatDoor
open Go.RowKit Bn Dc
section
variable {B kb : Nat} {raw : Value} {im en : List Value} {q : Pt} {p g : Nat} {w0 : World} {s : D} {w w' : World}
theorem spanX (h : Dt B kb raw im en q p g w0 s w) : Calls Tryz.prog 144 #[.pointer (some ⟨kb, 0, none⟩)] w fun e w' => e = .returned (.agg (rgE (spanD q s).1).toArray) ∧ Dt B kb raw im en q p g w0 (spanD q s).2 w' := by
 obtain ⟨h1, hf1, hb1, hl1⟩ := h.boxed (.cells ([.int .u64 0, .int .u64 0] : List Value).toArray 64);have HF := Lib.hid hf1;have nk1 : ¬ kb = w.heap.size := by have := h.lt; omega
 have nk2 : ¬ w.heap.size = kb := by have := h.lt; omega
 have HS : Hid (w0.heap.size ≤ w.heap.size) := h.fr.size;have HB : Hid (∀ W t, Dt B kb raw im en q p g (w.alloc (.cells ([.int .u64 0, .int .u64 0] : List Value).toArray 64)) t W → W.heap[w.heap.size]? = some (.cells ([.int .u64 0, .int .u64 0] : List Value).toArray 64 (0, 0))) := fun W t hW => hW.box hb1 (by decide) (by decide);have H0 : Hid (Dt B kb raw im en q p g (w.alloc (.cells ([.int .u64 0, .int .u64 0] : List Value).toArray 64)) s (w.alloc (.cells ([.int .u64 0, .int .u64 0] : List Value).toArray 64)).drew) := h1.drew;obtain ⟨v0, s1, e0⟩ : ∃ v t, takeD q 8 s = (v, t) := ⟨_, _, rfl⟩
 obtain ⟨v1, s2, e1⟩ : ∃ v t, takeD q 8 s1 = (v, t) := ⟨_, _, rfl⟩
 have K0 : Hid (∀ W w9, Hid (Dt B kb raw im en q p g w9 s W) → Calls Tryz.prog 137 #[.pointer (some ⟨p, 0, none⟩)] W fun e w' => e = .returned (.int .u64 (v0 : Nat)) ∧ Dt B kb raw im en q p g w9 s1 w') := fun W w9 hW => by have h9 := tLongX hW.out; rw [e0] at h9; exact h9
 have K1 : Hid (∀ W w9, Hid (Dt B kb raw im en q p g w9 s1 W) → Calls Tryz.prog 137 #[.pointer (some ⟨p, 0, none⟩)] W fun e w' => e = .returned (.int .u64 (v1 : Nat)) ∧ Dt B kb raw im en q p g w9 s2 w') := fun W w9 hW => by have h9 := tLongX hW.out; rw [e1] at h9; exact h9
 have HE : spanD q s = ((v0, v1), s2) := by simp only [spanD, e0, e1]
 clear h h1 hf1 hb1 hl1;rw [HE];clear HE e0 e1;dsimp only;have HC : Hid (∀ W t, Dt B kb raw im en q p g (w.alloc (.cells ([.int .u64 0, .int .u64 0] : List Value).toArray 64)) t W → W.cell? ⟨kb, 59, none⟩ = some (.pointer (some ⟨p, 0, none⟩)) ∧ W.cell? ⟨w.heap.size, 0, none⟩ = some (.int .u64 0) ∧ W.cell? ⟨w.heap.size, 1, none⟩ = some (.int .u64 0)) := fun W t hW => ⟨hW.c59, box_cell (HB.out _ _ hW) 0, box_cell (HB.out _ _ hW) 1⟩
 have HFz : Hid (∀ W t, Dt B kb raw im en q p g (w.alloc (.cells ([.int .u64 0, .int .u64 0] : List Value).toArray 64)) t W → W.frozen? ⟨w.heap.size, 0, none⟩ = false ∧ W.frozen? ⟨w.heap.size, 1, none⟩ = false) := fun W t hW => ⟨box_free (HB.out _ _ hW) 0, box_free (HB.out _ _ hW) 1⟩
 have c59 := (HC.out _ _ H0.out).1;go_enter Tryz.func144, Tryz.ntmps144
 go_wp2_with fail
 go_region_held3 (fun W => W.cell? ⟨kb, 59, none⟩ = some (.pointer (some ⟨p, 0, none⟩))) (first | go_keep | (simp [nk1, nk2]; assumption)) (first | (go_at_call 137; refine (K0.out _ _ H0).mono ?_; rintro e w1 ⟨rfl, h1⟩; have H1 := Lib.hid h1; have x59 := (HC.out _ _ h1).1; clear h1 H0 K0) | (go_at_call 137; refine (K1.out _ _ H1).mono ?_; rintro e w2 ⟨rfl, h2⟩; have H2 := Lib.hid h2; obtain ⟨y59, d0, d1⟩ := HC.out _ _ h2; obtain ⟨f0, f1⟩ := HFz.out _ _ h2; clear h2 H1 K1))
 all_goals
  go_wp2_with fail
  have hz : ((w2.setCell ⟨w.heap.size, 0, none⟩ (.int .u64 (v0 : Int))).setCell ⟨w.heap.size, 1, none⟩ (.int .u64 (v1 : Int))).heap[w.heap.size]? = some (.cells (rgE (v0, v1)).toArray 64 (0, 0)) := box_set (box_set (HB.out _ _ H2.out) _ _) _ _;have HW : Hid (Dt B kb raw im en q p g w0 s2 ((w2.setCell ⟨w.heap.size, 0, none⟩ (.int .u64 (v0 : Int))).setCell ⟨w.heap.size, 1, none⟩ (.int .u64 (v1 : Int)))) := Db.dt (t := 64) (n := w.heap.size) (Db.set (Db.set ⟨H2.out.since HF.out, ⟨_, HB.out _ _ H2.out⟩, HS.out, by decide, by decide, by decide⟩ _ _) _ _);generalize hW : World.setCell _ _ _ = W at *;have g0 := box_cell hz 0;have g1 := box_cell hz 1;simp only [rgE, List.getElem?_cons_zero, List.getElem?_cons_succ] at g0 g1;clear hz hW;refine bodyPost_ret (v := .agg (rgE (v0, v1)).toArray) (by simp [results, Tryz.results144, go_sem, rgE, g0, g1]) rfl ?_;exact ⟨rfl, HW.out⟩
end
end Go.Proofs.YtmfkggngjeolcaaGreatDoor
namespace Go.Proofs.YtmfkggngjeolcaaGreatDoor
open Go.RowKit Bn
def TbG (w : World) (v : Value) (fs : List (Nat → Nat)) : Prop :=
 ∃ ao cap, v = .slice ao fs.length cap ∧ fs.length ≤ cap ∧ cap ≤ maxLen ∧ ∀ i (h : i < fs.length), ∃ b o, ao = some ⟨b, o, none⟩ ∧ ∀ p, p < 512 → w.cell? ⟨b, o + i * 512 + p, none⟩ = some (.int .u64 (fs[i] p : Int))
theorem TbG.below {w w' : World} {v : Value} {fs : List (Nat → Nat)} (h : TbG w v fs) (hb : Below w.heap.size w w') : TbG w' v fs := by
 obtain ⟨ao, cap, rfl, h1, h2, h3⟩ := h;refine ⟨ao, cap, rfl, h1, h2, fun j hj => ?_⟩;obtain ⟨b, o, rfl, hc⟩ := h3 j hj;exact ⟨b, o, rfl, fun p hp => cell_low hb (hc p hp)⟩
def tbOk (f : Nat → Nat) : Prop := ∀ i, i < 512 → f i ≤ 18446744073709551615
theorem tb_eq (f : Nat → Nat) : ∀ k, tb f k = tbN f k
 | 0 => rfl
 | k + 1 => by rw [tb, tb_eq f k]; rfl
theorem tab_len (f : Nat → Nat) (s : S) : (tabS f s).1.length = s.1.length + 4096 := by rw [tabS, bytes_len, tb_eq, tbN_len]
theorem cells_tab {w : World} {b o : Nat} {f : Nat → Nat} (h : ∀ p, p < 512 → w.cell? ⟨b, o + p, none⟩ = some (.int .u64 (f p : Int))) : (Instr.loadAt 80 (.pointer (some ⟨b, o, none⟩))).run Tryz.prog w = .ok (.agg (tabV f)) w := by
 have hu : Tryz.prog.underlying 80 = some (.array 512 22) := by kernel_rfl
 have := run_loadAt_mid (P := Tryz.prog) w b o 80 (tabV f).toList (.array 512 22) (fun j v hv => by
  have hj : j < 512 := by have := (List.getElem?_eq_some_iff.1 hv).1; rw [Array.length_toList, tabV_size] at this; exact this
  rw [h j hj];rw [Array.getElem?_toList, tabV_get _ hj] at hv;exact hv) hu rfl (by rw [Array.length_toList, tabV_size]; exact tab_zero.2)
 simpa using this
theorem load_run {oo : Oper} {a : Act} {w : World} (x : Operand) (ho : oo.op = .load 80 x) {p V : Value} (hx : a.eval x = p) (hl : (Instr.loadAt 80 p).run Tryz.prog w = .ok V w) : (execOp a.eval oo).run Tryz.prog w = .ok (.value V) w := by
 unfold execOp;simp only [ho, hx, Sem.run_bind, Sem.run_pure, Result.andThen_ok, hl]
section
variable {B kb : Nat} {im : List Value} {o : Option Nat} {en : List Value} {w0 : World} {s : S} {w : World}
theorem tablesX (h : Sx B kb im o en w0 s w) {v : Value} {xs : List (Nat → Nat)} (hi : im[11]? = some v) (hr : ∀ W, Fx B w0 W → TbG W v xs) (hok : ∀ x ∈ xs, tbOk x) (hl : s.1.length + 4096 * xs.length ≤ 274877906944) : Calls Tryz.prog 55 #[.pointer (some ⟨kb, 0, none⟩)] w fun e w' => e = .returned (.tuple #[]) ∧ Sx B kb im o en w0 (eachS tabS xs s) w' := by
 have HR : Hid (∀ W, Fx B w0 W → TbG W v xs) := hr;have HL : Hid (s.1.length + 4096 * xs.length ≤ 274877906944) := hl;have HOk : Hid (∀ x ∈ xs, tbOk x) := hok;have HI : Hid (∀ W n' zs' why', St B kb im o en w0 n' zs' why' W → W.cell? ⟨kb, 11, none⟩ = some v) := fun W n' zs' why' hW => (St.cell hW 11).trans ((lyC_im hW.him (by decide)).trans hi);have c11 := HI.out _ _ _ _ h;obtain ⟨ao, cap, rfl, h1, h2, _⟩ := hr w h.fr;unfold maxLen at h2;obtain ⟨n, hn⟩ : ∃ n, xs.length = n := ⟨_, rfl⟩
 have HN := Lib.hid hn;have H0 : Hid (Sx B kb im o en w0 (eachS tabS (xs.take 0) s) w) := Lib.hid h;rw [hn] at h1 HR HI c11;clear hn h hl hok hr hi;go_enter Tryz.func55, Tryz.ntmps55
 go_wp2_with fail
 clear c11;go_loopw [9] (fun iv wr => ∃ i : Nat, i ≤ n ∧ iv = .int .i64 (i : Int) ∧ Hid (Sx B kb im o en w0 (eachS tabS (xs.take i) s) wr)) (fun iv _ => n - (intOf iv).toNat)
 case atStart => exact ⟨0, Nat.zero_le _, rfl, H0⟩
 case round =>
  clear H0;obtain ⟨i, hi, rfl, HJ⟩ := hrel
  by_cases hin : i < n
  ·have ji : (i : Int) < (n : Int) := by omega
   have hix : i < xs.length := by rw [HN.out]; exact hin
   have hw1 : IntKind.i64.wrap ((i : Int) + 1) = ((i + 1 : Nat) : Int) := by rw [IntKind.wrap_i64]; omega
   have HE : Hid (∀ W, Sx B kb im o en w0 (tabS xs[i] (eachS tabS (xs.take i) s)) W → Sx B kb im o en w0 (eachS tabS (xs.take (i + 1)) s) W) := fun W hW => by rw [eachS_take _ _ _ _ hix]; exact hW
   have HLi : Hid ((eachS tabS (xs.take i) s).1.length + 4096 ≤ 274877906944) := show _ ≤ _ by
    rw [each_len tab_len, List.length_take];have := HL.out;omega
   have hf := HOk.out xs[i] (List.getElem_mem _);have HTb : Hid (∀ W, Fx B w0 W → ∃ b o, ao = some ⟨b, o, none⟩ ∧ (Instr.loadAt 80 (.pointer (some ⟨b, o + i * 512, none⟩))).run Tryz.prog W = .ok (.agg (tabV xs[i])) W) := fun W hW => by
    obtain ⟨_, _, e', _, _, hc⟩ := HR.out W hW;simp only [Value.slice.injEq] at e';obtain ⟨rfl, _, _⟩ := e';obtain ⟨b, o, e, hc⟩ := hc i hix;exact ⟨b, o, e, cells_tab hc⟩
   generalize eachS tabS (xs.take i) s = si at HJ HE HLi;generalize xs[i] = f at *;obtain ⟨b, of, rfl, _⟩ := HTb.out wr HJ.out.fr;have HLd : Hid (∀ W, Fx B w0 W → (Instr.loadAt 80 (.pointer (some ⟨b, of + i * 512, none⟩))).run Tryz.prog W = .ok (.agg (tabV f)) W) := fun W hW => by
    obtain ⟨b', o', e, h⟩ := HTb.out W hW
    cases e
    exact h
   obtain ⟨zs, y⟩ := si;obtain ⟨T, hT⟩ : ∃ T, tbN f 512 = T := ⟨_, rfl⟩
   have HTl : Hid (T.length = 4096) := show _ = _ by rw [← hT]; exact tbN_len f 512
   have HTs : Hid (∀ z ∈ T, z < 256) := hT ▸ tbN_small f 512;have HPp := Lib.hid (pbytes_any hf);rw [hT] at HPp;have HTe : Hid (∀ (zs : List Nat) (y : Int), tabS f (zs, y) = (zs ++ T, y)) := fun zs y => by rw [tabS, bytesS, tb_eq, hT]
   clear hT;obtain ⟨L, hL⟩ : ∃ L, zs.length = L := ⟨_, rfl⟩
   have HLz : Hid (zs.length = L) := hL;have hJ : St B kb im o en w0 zs.length zs y wr := HJ.out;have HFin : Hid (∀ W, St B kb im o en w0 (L + 4096) (zs ++ T) y W → Sx B kb im o en w0 (eachS tabS (xs.take (i + 1)) s) W) := fun W hW => HE.out _ (by
    show St _ _ _ _ _ _ _ _ _ _
    rw [HTe.out];have e2 : (zs ++ T).length = L + 4096 := by rw [List.length_append, HTl.out, hL]
    show St _ _ _ _ _ _ (zs ++ T).length _ _ _
    rw [e2];exact hW)
   rw [hL] at hJ;have hl9 : L + 4096 ≤ 274877906944 := by have := HLi.out; simp only at this; omega
   obtain ⟨c12, c13, c59⟩ := hJ.cells;have f13 := hJ.free 13;have hw2 : IntKind.i64.wrap ((L : Int) + 4096) = ((L + 4096 : Nat) : Int) := by rw [IntKind.wrap_i64]; omega
   have h3 := hJ.setAt (L + 4096);rw [Int.natCast_add] at h3;rw [Int.natCast_add] at hw2;have c12' := h3.cells.1;have H3 := Lib.hid h3;clear hJ h3 HJ hL HTb HE
   cases o with
   | none =>
    simp only [outV, Option.map] at c12 c12';go_wp2_with fail
    go_roundw
    case rel => exact ⟨i + 1, by omega, rfl, HFin.out _ (H3.out.ghost HTs.out)⟩
    case measure => simp [intOf]; omega
   | some p =>
    simp only [outV, Option.map] at c12 c12';have HEn1 := Lib.hid (enters_of Tryz.func97 (by kernel_rfl) rfl);have HEn2 := Lib.hid (enters_of Tryz.func59 (by kernel_rfl) rfl);go_wp2_with fail
    generalize wr.setCell ⟨kb, 13, none⟩ (.int .i64 ((L : Int) + ((4096 : Nat) : Int))) = W3 at H3 c12';have HD : Hid (St B kb im (some p) en w0 (L + 4096) zs y W3.drew) := H3.out.below ⟨rfl, rfl, rfl, Nat.le_refl _, fun _ _ => rfl⟩;have HS9 : Hid (∀ W, Below W3.drew.heap.size W3.drew W → W.cell? ⟨kb, 12, none⟩ = some (.pointer (some ⟨p, 0, none⟩)) ∧ W.cell? ⟨kb, 11, none⟩ = some (.slice (some ⟨b, of, none⟩) n cap) ∧ (Instr.loadAt 80 (.pointer (some ⟨b, of + i * 512, none⟩))).run Tryz.prog W = .ok (.agg (tabV f)) W) := fun W hW => by
     have hs := HD.out.below hW;exact ⟨hs.cells.1, HI.out _ _ _ _ hs, HLd.out _ hs.fr⟩
    have HPb : Hid (Calls Tryz.prog 97 #[.agg (tabV f)] W3.drew fun e w' => ∃ v, e = .returned v ∧ ∃ g, v = .slice (some ⟨g, 0, none⟩) 4096 4096 ∧ Row w' g T ∧ Below W3.drew.heap.size W3.drew w') := (HPp.out W3.drew).mono (fun e w' h => by
     obtain ⟨g, rfl, _, h2, h3⟩ := h;exact ⟨_, rfl, g, rfl, h2, h3⟩)
    have HPw : Hid (∀ W g, Row W g T → Below W3.drew.heap.size W3.drew W → Calls Tryz.prog 59 #[.pointer (some ⟨p, 0, none⟩), .slice (some ⟨g, 0, none⟩) 4096 4096] W fun e w' => ∃ v, e = .returned v ∧ v = .tuple #[] ∧ Sx B kb im (some p) en w0 (eachS tabS (xs.take (i + 1)) s) w') := fun W g hg hW => by
     have hs := HD.out.below hW;obtain ⟨u, hu, hp, hB⟩ := hs.wr;have hsl : Sl W (.slice (some ⟨g, 0, none⟩) 4096 4096) T := by
      have ho : Own W 0 (.slice (some ⟨g, 0, none⟩) T.length T.length) T := ⟨by simp [bvs], .inr ⟨g, T.length, _, rfl, Nat.zero_le _, hg, Nat.le_refl _, by rw [HTl.out]; unfold maxLen; omega, by simp [bvs], by rw [List.take_of_length_le (by simp [bvs])]⟩⟩
      have := ho.sl HTs.out;rw [HTl.out] at this;exact this
     refine (wbytes_any hu hsl (by have := HLz.out; omega) (by rw [HTl.out]; omega) hs.le).mono ?_;rintro e w' ⟨rfl, v', hv', hk', _⟩;exact ⟨_, rfl, rfl, HFin.out _ (hs.put hu hp hB hv' hk')⟩
    clear HD HFin HLd HI;refine regionJ (fun w' => w'.cell? ⟨kb, 12, none⟩ = some (.pointer (some ⟨p, 0, none⟩)) ∧ w'.cell? ⟨kb, 11, none⟩ = some (.slice (some ⟨b, of, none⟩) n cap) ∧ (Instr.loadAt 80 (.pointer (some ⟨b, of + i * 512, none⟩))).run Tryz.prog w' = .ok (.agg (tabV f)) w') 13 (by kernel_rfl) (by kernel_rfl) (HS9.out _ (Below.refl _ _)) (fun hS hA => ?_);refine takeJ (i := 0) (d := 24) (Value.pointer (some ⟨kb, 0, none⟩)) hA (by decide) rfl rfl (by kernel_rfl) (by kernel_rfl) (by kernel_rfl) (by kernel_rfl) (by kernel_rfl) (fun _ _ _ h => h) hS (by rfl) (fun wz9 hz => ?_) ?_
    ·(try dsimp only at hz); obtain ⟨z1, z2, z3⟩ := hz; go_simp
    simp only [Act.put, List.setIfInBounds_toArray, List.set_cons_zero, List.set_cons_succ];refine takeJ (i := 1) (d := 25) (Value.pointer (some ⟨kb, 0, none⟩)) hA (by decide) rfl rfl (by kernel_rfl) (by kernel_rfl) (by kernel_rfl) (by kernel_rfl) (by kernel_rfl) (fun _ _ _ h => h) hS (by rfl) (fun wz9 hz => ?_) ?_
    ·(try dsimp only at hz); obtain ⟨z1, z2, z3⟩ := hz; go_simp
    simp only [Act.put, List.setIfInBounds_toArray, List.set_cons_zero, List.set_cons_succ];refine takeJ (i := 2) (d := 26) (Value.pointer (some ⟨kb, 12, none⟩)) hA (by decide) rfl rfl (by kernel_rfl) (by kernel_rfl) (by kernel_rfl) (by kernel_rfl) (by kernel_rfl) (fun _ _ _ h => h) hS (by rfl) (fun wz9 hz => ?_) ?_
    ·(try dsimp only at hz); obtain ⟨z1, z2, z3⟩ := hz; go_simp
    simp only [Act.put, List.setIfInBounds_toArray, List.set_cons_zero, List.set_cons_succ];refine takeJ (i := 3) (d := 27) (Value.pointer (some ⟨p, 0, none⟩)) hA (by decide) rfl rfl (by kernel_rfl) (by kernel_rfl) (by kernel_rfl) (by kernel_rfl) (by kernel_rfl) (fun _ _ _ h => h) hS (by rfl) (fun wz9 hz => ?_) ?_
    ·(try dsimp only at hz); obtain ⟨z1, z2, z3⟩ := hz; go_simp
    simp only [Act.put, List.setIfInBounds_toArray, List.set_cons_zero, List.set_cons_succ];refine takeJ (i := 4) (d := 28) (Value.pointer (some ⟨kb, 0, none⟩)) hA (by decide) rfl rfl (by kernel_rfl) (by kernel_rfl) (by kernel_rfl) (by kernel_rfl) (by kernel_rfl) (fun _ _ _ h => h) hS (by rfl) (fun wz9 hz => ?_) ?_
    ·(try dsimp only at hz); obtain ⟨z1, z2, z3⟩ := hz; go_simp
    simp only [Act.put, List.setIfInBounds_toArray, List.set_cons_zero, List.set_cons_succ];refine takeJ (i := 5) (d := 29) (Value.pointer (some ⟨kb, 0, none⟩)) hA (by decide) rfl rfl (by kernel_rfl) (by kernel_rfl) (by kernel_rfl) (by kernel_rfl) (by kernel_rfl) (fun _ _ _ h => h) hS (by rfl) (fun wz9 hz => ?_) ?_
    ·(try dsimp only at hz); obtain ⟨z1, z2, z3⟩ := hz; go_simp
    simp only [Act.put, List.setIfInBounds_toArray, List.set_cons_zero, List.set_cons_succ];refine takeJ (i := 6) (d := 30) (Value.pointer (some ⟨kb, 0, none⟩)) hA (by decide) rfl rfl (by kernel_rfl) (by kernel_rfl) (by kernel_rfl) (by kernel_rfl) (by kernel_rfl) (fun _ _ _ h => h) hS (by rfl) (fun wz9 hz => ?_) ?_
    ·(try dsimp only at hz); obtain ⟨z1, z2, z3⟩ := hz; go_simp
    simp only [Act.put, List.setIfInBounds_toArray, List.set_cons_zero, List.set_cons_succ];refine takeJ (i := 7) (d := 31) (Value.pointer (some ⟨kb, 11, none⟩)) hA (by decide) rfl rfl (by kernel_rfl) (by kernel_rfl) (by kernel_rfl) (by kernel_rfl) (by kernel_rfl) (fun _ _ _ h => h) hS (by rfl) (fun wz9 hz => ?_) ?_
    ·(try dsimp only at hz); obtain ⟨z1, z2, z3⟩ := hz; go_simp
    simp only [Act.put, List.setIfInBounds_toArray, List.set_cons_zero, List.set_cons_succ];refine takeJ (i := 8) (d := 32) (Value.slice (some ⟨b, of, none⟩) n cap) hA (by decide) rfl rfl (by kernel_rfl) (by kernel_rfl) (by kernel_rfl) (by kernel_rfl) (by kernel_rfl) (fun _ _ _ h => h) hS (by rfl) (fun wz9 hz => ?_) ?_
    ·(try dsimp only at hz); obtain ⟨z1, z2, z3⟩ := hz; go_simp
    simp only [Act.put, List.setIfInBounds_toArray, List.set_cons_zero, List.set_cons_succ];refine takeJ (i := 9) (d := 33) (Value.int .i64 (i : Int)) hA (by decide) rfl rfl (by kernel_rfl) (by kernel_rfl) (by kernel_rfl) (by kernel_rfl) (by kernel_rfl) (fun _ _ _ h => h) hS (by rfl) (fun wz9 hz => ?_) ?_
    ·(try dsimp only at hz); obtain ⟨z1, z2, z3⟩ := hz; go_simp
    simp only [Act.put, List.setIfInBounds_toArray, List.set_cons_zero, List.set_cons_succ];refine takeJ (i := 10) (d := 34) (Value.pointer (some ⟨b, of + i * 512, none⟩)) hA (by decide) rfl rfl (by kernel_rfl) (by kernel_rfl) (by kernel_rfl) (by kernel_rfl) (by kernel_rfl) (fun _ _ _ h => h) hS (by rfl) (fun wz9 hz => ?_) ?_
    ·(try dsimp only at hz); obtain ⟨z1, z2, z3⟩ := hz; go_simp
    simp only [Act.put, List.setIfInBounds_toArray, List.set_cons_zero, List.set_cons_succ];refine takeJ (i := 11) (d := 35) (Value.agg (tabV f)) hA (by decide) rfl rfl (by kernel_rfl) (by kernel_rfl) (by kernel_rfl) (by kernel_rfl) (by kernel_rfl) (fun _ _ _ h => h) hS (by rfl) (fun wz9 hz => ?_) ?_
    ·(try dsimp only at hz); exact load_run (.tmp 34) rfl rfl hz.2.2
    simp only [Act.put, List.setIfInBounds_toArray, List.set_cons_zero, List.set_cons_succ];refine callJ (i := 12) (d := 36) (by kernel_rfl) rfl rfl (by rfl) 97 _ _ rfl HEn1.out _ (by simp [Act.eval]) HPb.out (fun v w' hR _ _ => ?_) (fun v x1 hR => ?_)
    ·obtain ⟨g, _, _, hb9⟩ := hR;exact HS9.out _ hb9
    obtain ⟨g, rfl, hg9, hb9⟩ := hR;have HPx := Lib.hid (HPw.out _ _ hg9 hb9);clear hg9 hb9 hS HPw HPb HS9;simp only [Act.put, List.setIfInBounds_toArray, List.set_cons_zero, List.set_cons_succ];refine callJ (i := 13) (d := 37) (by kernel_rfl) rfl rfl (by rfl) 59 _ _ rfl HEn2.out _ (by simp [Act.eval]) HPx.out (fun v w' hR h _ => absurd rfl h) (fun v x2 hR => ?_);obtain ⟨rfl, h9⟩ := hR;have H9 := Lib.hid h9;clear h9 HPx;simp only [Act.put, List.setIfInBounds_toArray, List.set_cons_zero, List.set_cons_succ];refine doneJ (by kernel_rfl) ?_ _;go_wp2_with fail
    go_roundw
    case rel => exact ⟨i + 1, by omega, rfl, H9⟩
    case measure => simp [intOf]; omega
  ·obtain rfl : i = n := by omega
   have ji : ¬ (i : Int) < (i : Int) := by omega
   have HE : Hid (eachS tabS (xs.take i) s = eachS tabS xs s) := show _ = _ by rw [List.take_of_length_le (by rw [HN.out]; exact Nat.le_refl _)]
   rw [HE.out] at HJ;go_wp2_with fail
   go_end0
   exact ⟨rfl, HJ.out⟩
end
end Go.Proofs.YtmfkggngjeolcaaGreatDoor
namespace Go.Proofs.YtmfkggngjeolcaaGreatDoor
open Go.RowKit Bn
structure ImG (B : Nat) (w0 : World) (im : List Value) (I : Im) : Prop where
 base : im[0]? = some (.int .u64 (I.base : Int)) ∧ I.base ≤ 18446744073709551615
 rams : ∃ v, im[1]? = some v ∧ (∀ W, Fx B w0 W → RowG 2 rgE W v I.rams) ∧ ∀ x ∈ I.rams, rgOk x
 devs : ∃ v, im[2]? = some v ∧ (∀ W, Fx B w0 W → RowG 2 rgE W v I.devs) ∧ ∀ x ∈ I.devs, rgOk x
 subs : ∃ v, im[3]? = some v ∧ (∀ W, Fx B w0 W → RowG 6 tnE W v I.subs) ∧ ∀ x ∈ I.subs, tnOk x
 ports : ∃ v, im[4]? = some v ∧ (∀ W, Fx B w0 W → RowG 1 poE W v I.ports) ∧ ∀ x ∈ I.ports, I64R x
 regs : ∃ v, im[5]? = some v ∧ (∀ W, Fx B w0 W → RowG 4 gdE W v I.regs) ∧ ∀ x ∈ I.regs, gdOk x
 chs : ∃ v, im[6]? = some v ∧ (∀ W, Fx B w0 W → RowG 5 lkE W v I.chs) ∧ ∀ x ∈ I.chs, lkOk x
 irqs : ∃ v, im[7]? = some v ∧ (∀ W, Fx B w0 W → RowG 5 lkE W v I.irqs) ∧ ∀ x ∈ I.irqs, lkOk x
 plans : ∃ v wz, im[8]? = some v ∧ PlG wz v I.plans ∧ (∀ W, Fx B w0 W → Below wz.heap.size wz W) ∧ ∀ x ∈ I.plans, scOk x
 master : im[9]? = some (.int .i64 I.master) ∧ I64R I.master
 start : im[10]? = some (.int .i64 I.start) ∧ I64R I.start
 tabs : ∃ v, im[11]? = some v ∧ (∀ W, Fx B w0 W → TbG W v I.tabs) ∧ ∀ x ∈ I.tabs, tbOk x
def szI (I : Im) : Nat := 1000 + 16 * I.rams.length + 16 * I.devs.length + 8 * I.subs.length + 8 * I.ports.length + gsum I.regs + 8 * I.chs.length + 8 * I.irqs.length + psum I.plans + 4096 * I.tabs.length
def secS (I : Im) : Nat → S → S
 | 0 => roomS I
 | 1 => busS I
 | 2 => subsS I
 | 3 => portsS I
 | 4 => regsS I
 | 5 => chsS I
 | 6 => irqsS I
 | 7 => plansS I
 | _ => tabsS I
theorem lanesN_eq (I : Im) : lanesN I = lanesL I.plans := by
 unfold lanesN
 cases I.plans <;> rfl
theorem sec_len (I : Im) (k : Nat) (s : S) : (secS I k s).1.length ≤ s.1.length + szI I := by
 unfold szI
 match k with
 | 0 => show (roomS I s).1.length ≤ _; rw [roomS, zeros_len, field_len]; omega
 | 1 => show (busS I s).1.length ≤ _; rw [busS, each_len rangeS_len, each_len rangeS_len, zeros_len, half_len, half_len]; omega
 | 2 => show (subsS I s).1.length ≤ _; rw [subsS, each_len tenS_len, many_len]; omega
 | 3 => show (portsS I s).1.length ≤ _; rw [portsS, each_len portS_len, many_len, field_len]; omega
 | 4 =>
  show (regsS I s).1.length ≤ _
  have := gds_le I.regs (manyS I.regs.length s);rw [many_len] at this;rw [regsS];omega
 | 5 => show (chsS I s).1.length ≤ _; rw [chsS, each_len chS_len, many_len]; omega
 | 6 => show (irqsS I s).1.length ≤ _; rw [irqsS, each_len iqS_len, many_len]; omega
 | 7 => show (plansS I s).1.length ≤ _; rw [plansS, plans_len, half_len, none_len, half_len, half_len]; omega
 | k + 8 => show (tabsS I s).1.length ≤ _; rw [tabsS, each_len tab_len]; omega
section
variable {B kb : Nat} {im : List Value} {o : Option Nat} {en : List Value} {w0 : World} {s : S} {w : World} {I : Im}
theorem sec0X (hI : ImG B w0 im I) (h : Sx B kb im o en w0 s w) (hl : s.1.length + szI I ≤ 269000000000) : Calls Tryz.prog 47 #[.pointer (some ⟨kb, 0, none⟩)] w fun e w' => e = .returned (.tuple #[]) ∧ Sx B kb im o en w0 (secS I 0 s) w' := by
 unfold szI at hl;exact roomX h hI.base.1 hI.base.2 (by omega)
theorem sec1X (hI : ImG B w0 im I) (h : Sx B kb im o en w0 s w) (hl : s.1.length + szI I ≤ 269000000000) : Calls Tryz.prog 48 #[.pointer (some ⟨kb, 0, none⟩)] w fun e w' => e = .returned (.tuple #[]) ∧ Sx B kb im o en w0 (secS I 1 s) w' := by
 unfold szI at hl;obtain ⟨v, h1, h2, h3⟩ := hI.rams;obtain ⟨u, g1, g2, g3⟩ := hI.devs;exact busX h h1 g1 h2 g2 h3 g3 (by omega)
theorem sec2X (hI : ImG B w0 im I) (h : Sx B kb im o en w0 s w) (hl : s.1.length + szI I ≤ 269000000000) : Calls Tryz.prog 49 #[.pointer (some ⟨kb, 0, none⟩)] w fun e w' => e = .returned (.tuple #[]) ∧ Sx B kb im o en w0 (secS I 2 s) w' := by
 unfold szI at hl;obtain ⟨v, h1, h2, h3⟩ := hI.subs;exact subjectsX h h1 h2 h3 (by omega)
theorem sec3X (hI : ImG B w0 im I) (h : Sx B kb im o en w0 s w) (hl : s.1.length + szI I ≤ 269000000000) : Calls Tryz.prog 50 #[.pointer (some ⟨kb, 0, none⟩)] w fun e w' => e = .returned (.tuple #[]) ∧ Sx B kb im o en w0 (secS I 3 s) w' := by
 unfold szI at hl;obtain ⟨v, h1, h2, h3⟩ := hI.ports;obtain ⟨u, g1, g2, _⟩ := hI.devs;obtain ⟨ao, cap, rfl, _⟩ := g2 w h.fr;exact portsX h h1 g1 h2 h3 (by omega)
theorem sec4X (hI : ImG B w0 im I) (h : Sx B kb im o en w0 s w) (hl : s.1.length + szI I ≤ 269000000000) : Calls Tryz.prog 51 #[.pointer (some ⟨kb, 0, none⟩)] w fun e w' => e = .returned (.tuple #[]) ∧ Sx B kb im o en w0 (secS I 4 s) w' := by
 unfold szI at hl;obtain ⟨v, h1, h2, h3⟩ := hI.regs;exact regionsX h h1 h2 h3 (by omega)
theorem sec5X (hI : ImG B w0 im I) (h : Sx B kb im o en w0 s w) (hl : s.1.length + szI I ≤ 269000000000) : Calls Tryz.prog 52 #[.pointer (some ⟨kb, 0, none⟩)] w fun e w' => e = .returned (.tuple #[]) ∧ Sx B kb im o en w0 (secS I 5 s) w' := by
 unfold szI at hl;obtain ⟨v, h1, h2, h3⟩ := hI.chs;exact channelsX h h1 h2 h3 (by omega)
theorem sec6X (hI : ImG B w0 im I) (h : Sx B kb im o en w0 s w) (hl : s.1.length + szI I ≤ 269000000000) : Calls Tryz.prog 53 #[.pointer (some ⟨kb, 0, none⟩)] w fun e w' => e = .returned (.tuple #[]) ∧ Sx B kb im o en w0 (secS I 6 s) w' := by
 unfold szI at hl;obtain ⟨v, h1, h2, h3⟩ := hI.irqs;exact irqsX h h1 h2 h3 (by omega)
theorem sec7X (hI : ImG B w0 im I) (h : Sx B kb im o en w0 s w) (hl : s.1.length + szI I ≤ 269000000000) : Calls Tryz.prog 54 #[.pointer (some ⟨kb, 0, none⟩)] w fun e w' => e = .returned (.tuple #[]) ∧ Sx B kb im o en w0 (secS I 7 s) w' := by
 unfold szI at hl;obtain ⟨v, wz, h1, h2, h3, h4⟩ := hI.plans;have := plansX h h1 hI.master.1 hI.start.1 h2 h3 h4 hI.master.2 hI.start.2 (by omega)
 show Calls _ _ _ _ (fun e w' => _ ∧ Sx B kb im o en w0 (plansS I s) w')
 rw [plansS, lanesN_eq];exact this
theorem sec8X (hI : ImG B w0 im I) (h : Sx B kb im o en w0 s w) (hl : s.1.length + szI I ≤ 269000000000) : Calls Tryz.prog 55 #[.pointer (some ⟨kb, 0, none⟩)] w fun e w' => e = .returned (.tuple #[]) ∧ Sx B kb im o en w0 (secS I 8 s) w' := by
 unfold szI at hl;obtain ⟨v, h1, h2, h3⟩ := hI.tabs;exact tablesX h h1 h2 h3 (by omega)
end
end Go.Proofs.YtmfkggngjeolcaaGreatDoor
