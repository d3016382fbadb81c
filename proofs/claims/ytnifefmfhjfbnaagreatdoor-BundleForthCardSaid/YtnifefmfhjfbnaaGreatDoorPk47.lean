import Derived.Test.YtnifefmfhjfbnaaGreatDoorPk44
import Derived.Test.YtnifefmfhjfbnaaGreatDoorPk45
import Derived.Test.YtnifefmfhjfbnaaGreatDoorPk46
import Derived.Test.YtnifefmfhjfbnaaGreatDoorPk26
/- Bundle: there and back, and there again: the law's back. Own work. -/
namespace Go.Proofs.YtnifefmfhjfbnaaGreatDoor
open Go.RowKit Bn Dc
set_option linter.unusedVariables false
set_option linter.unusedSimpArgs false
theorem SmA.below {w w' : World} {B : Nat} {m : Bool} (h : SmA w B m) (hb : Below w.heap.size w w') : SmA w' B m := by
  have k : ∀ {i : Nat} {o : Obj}, w.heap[i]? = some o → w'.heap[i]? = some o := fun {i o} hi => (hb.block i (Array.getElem?_eq_some_iff.1 hi).1).trans hi
  exact ⟨k h.h1, k h.h2, k h.h3, k h.h4, k h.h5, k h.h6, k h.h7, k h.h8, k h.h9, k h.h10, k h.h11⟩
theorem row_bytes {w : World} {g : Nat} {zs : List Nat} (h : Row w g zs) (hl : zs.length ≤ maxLen) : RowG 1 ubE w (.slice (some ⟨g, 0, none⟩) zs.length zs.length) zs :=
  ⟨_, _, rfl, Nat.le_refl _, hl, fun i hi => ⟨g, 0, rfl, (Array.getElem?_eq_some_iff.1 h).1, fun j hj => by
    have h0 : j = 0 := by omega
    subst h0
    rw [cell_of_row _ _ _ _ _ _ h]
    simp [bvs, ubE, hi]⟩⟩
theorem sl_bytes {w : World} {v : Value} {zs : List Nat} (h : Sl w v zs) : RowG 1 ubE w v zs := by
  obtain ⟨ao, cap, rfl, h1, h2, h3, h4, h5⟩ := h
  refine ⟨ao, cap, rfl, h1, h2, fun i hi => ?_⟩
  obtain ⟨b, o, rfl, hc⟩ := h5 i hi
  refine ⟨b, o, rfl, World.block_lt_of_cell? w _ hc, fun j hj => ?_⟩
  have h0 : j = 0 := by omega
  subst h0
  rw [show o + i * 1 + 0 = o + i by omega, hc]
  simp [ubE, List.getD_eq_getElem?_getD, List.getElem?_eq_getElem hi]
theorem ld_im {w : World} {b : Nat} {im : List Value} (h : w.heap[b]? = some (.cells im.toArray 37 (0, 0))) (hi : (Tryz.prog.info? 37).map (·.size) = some im.toArray.size) : (Instr.loadAt 37 (.pointer (some ⟨b, 0, none⟩))).run Tryz.prog w = .ok (.agg im.toArray) w := by
  have := run_loadAt_mid (P := Tryz.prog) w b 0 37 im _ (fun j v hv => by
    rw [cell_of_row _ _ _ _ _ _ h, Nat.zero_add]
    simpa using hv) Tryz.underlying37 rfl (by simpa using hi)
  exact this
theorem ld_wh {w : World} {b : Nat} {sec ad : Int} (h : w.heap[b]? = some (.cells (whA sec ad) 41 (0, 0))) : (Instr.loadAt 41 (.pointer (some ⟨b, 0, none⟩))).run Tryz.prog w = .ok (.agg (whA sec ad)) w := by
  have := run_loadAt_mid (P := Tryz.prog) w b 0 41 [.int .i64 sec, .int .i64 ad] _ (fun j v hv => by
    rw [cell_of_row _ _ _ _ _ _ h, Nat.zero_add]
    simpa [whA] using hv) Tryz.underlying41 rfl (by kernel_rfl)
  exact this
theorem im_ok {w : World} {im : List Value} {I : Im} (h : ImA w im I) : ImK I := by
  obtain ⟨_, _, _, r⟩ := h.rams
  obtain ⟨_, _, _, d⟩ := h.devs
  obtain ⟨_, _, _, g⟩ := h.regs
  obtain ⟨_, _, _, t⟩ := h.tabs
  exact ⟨h.base.2, r, d, g, t⟩
theorem enc_le {I : Im} (h : szI I ≤ 20000000000) : (encF I).length ≤ maxLen := by
  have h1 := stN_le I 9
  have h2 : 9 * (szI I + 4096) ≤ 9 * (20000000000 + 4096) := Nat.mul_le_mul (Nat.le_refl _) (by omega)
  unfold maxLen
  rw [encF, List.length_append, hdF_len, List.length_drop]
  omega
theorem row_sl {w : World} {g : Nat} {zs : List Nat} (h : Row w g zs) (hz : ∀ z ∈ zs, z < 256) (hm : zs.length ≤ maxLen) : Sl w (.slice (some ⟨g, 0, none⟩) zs.length zs.length) zs := by
  have h9 := sl_of_row (f := 0) (l := zs.length) (c := zs.length) (ad := 0) h hz (by omega) (Nat.le_refl _) hm (.inl rfl)
  rw [List.drop_zero, List.take_of_length_le (Nat.le_refl _)] at h9
  exact h9
/-- two places compared -/
theorem wh_equal (a b c d : Int) (w : World) : (Op.equalIn 10000 41 (.agg (whA a b)) (.agg (whA c d))).run Tryz.prog w = .ok (decide (a = c ∧ b = d)) w := by
  have u0 := Tryz.underlying3
  have a0 := Tryz.isAgg3
  have z0 := Tryz.sizeOf3
  have hS : Tryz.prog.underlying 41 = some (.struct (Tryz.prog.fieldsOf 41)) := by kernel_rfl
  have hp : Tryz.prog.stoodInHeld 41 = false := by kernel_rfl
  unfold whA
  rw [show (10000 : Nat) = 9999 + 1 from rfl, run_equalIn_agg w 9999 41 _ _ hS hp]
  simp only [Program.fieldsOf, Tryz.underlying41]
  go_simp
  by_cases h0 : a = c
  · by_cases h1 : b = d
    · simp [h0, h1]
    · simp [h0, h1]
  · simp [h0]
theorem wh_guard : Tryz.prog.eqGuardType Tryz.prog.depth 41 = false := by kernel_rfl
theorem wh_eql (a b c d : Int) (w : World) : (binOp .eql 41 (.agg (whA a b)) (.agg (whA c d))).run Tryz.prog w = .ok (.bool (decide (a = c ∧ b = d))) w := by
  rw [run_eql_struct, wh_equal]
  rfl
theorem wpList_eql_wh {w : World} {ops : Array Oper} {rest : List Oper} {o : Oper} {a : Act} {Q : Exit → Act → World → Prop} (hw : Region.wanted o (yielded ops a.tmps) = true) (x y : Operand) {t' : TypeId} (ho : o.op = .binOp .eql 41 x y t') {p q r s : Int} {b : Bool} (hx : a.eval x = .agg (whA p q)) (hy : a.eval y = .agg (whA r s)) (hb : decide (p = r ∧ q = s) = b)
    (hK : wpList Tryz.prog ops Q rest (a.put o.dst (.bool b)) w) : wpList Tryz.prog ops Q (o :: rest) a w := by
  refine wpList_step fun K' hK' => ?_
  rw [if_pos hw]
  unfold Oper.wp execOp
  have hg : (eqGuard .eql 41 x y (.agg (whA p q)) (.agg (whA r s))).run Tryz.prog w = .ok () w := run_eqGuard_agg w _ _ _ _ _ _ wh_guard
  simp only [ho, hx, hy, Sem.run_bind, Sem.run_pure, Result.andThen_ok, hg, wh_eql, hb]
  exact hK' _ _ hK
namespace Dc
theorem sz_same {I J : Im} (h : alike I J) : szI I = szI J := by
  obtain ⟨h1, h2, h3, ⟨h4, h5⟩, h6, h7, h8, h9, h10, h11, h12⟩ := h
  have hl : I.tabs.length = J.tabs.length := by
    have := congrArg List.length h12
    simpa using this
  unfold szI
  rw [h4, h5, h6, h7, h8, h9, h10, h11, hl]
theorem size_same {I J : Im} (h : alike I J) : sizeF I = sizeF J := by
  unfold sizeF
  rw [st_same h 9]
end Dc
/-- a law's answer -/
def LQ (w : World) (e : Ending) (w' : World) : Prop := e = .returned (.bool true) ∧ Below w.heap.size w w'
set_option maxRecDepth 100000 in
set_option maxHeartbeats 16000000 in
theorem back_any {w : World} {ui : List Value} {I : Im} {must : Bool} (ht : Tab w) (hA : ImA w ui I) (hz : szI I ≤ 20000000000) (hm : must = true → (sizeF I).2 = 0) : Calls Tryz.prog 11 #[.agg ui.toArray, .bool must] w (LQ w) := by
  have HInu := Lib.hid (info_im hA.len)
  have HT := Lib.hid ht
  have HA := Lib.hid hA
  have HZ : Hid (szI I ≤ 20000000000) := hz
  have HK : Hid (ImK I) := im_ok hA
  obtain ⟨B0, hB0⟩ : ∃ B, w.heap.size = B := ⟨_, rfl⟩
  have HB0 : Hid (Below B0 w (w.alloc (.cells ui.toArray 37))) := hB0 ▸ ((Below.refl _ _).alloc (Nat.le_refl _) _)
  have HX0 : Hid ((w.alloc (.cells ui.toArray 37)).heap[B0]? = some (.cells ui.toArray 37 (0, 0))) := hB0 ▸ (heap_alloc_new w _)
  have HW : Hid (LQ w = fun e w' => e = .returned (.bool true) ∧ Below B0 w w') := show _ = _ by
    funext e w'
    unfold LQ
    rw [hB0]
  rw [HW.out]
  clear ht hA hz HW
  go_enter Tryz.func11, Tryz.ntmps11
  go_upto_region 1 with fail
  try simp only [hB0]
  generalize (w.alloc (.cells ui.toArray 37)) = W0 at *
  have HE : Hid (∀ W, Below B0 w W → Calls Tryz.prog 7 #[.agg ui.toArray] W fun e w' => (((sizeF I).2 ≠ 0 ∧ e = .returned (.tuple #[.slice none 0 0, .int .i64 (sizeF I).2])) ∨ ((sizeF I).2 = 0 ∧ ∃ g, e = .returned (.tuple #[.slice (some ⟨g, 0, none⟩) (encF I).length (encF I).length, .int .i64 0]) ∧ W.heap.size ≤ g ∧ Row w' g (encF I))) ∧ Below W.heap.size W w') := fun W hW => encodeX (HA.out.below (hB0 ▸ hW)) (HT.out.below (hB0 ▸ hW)) HZ.out
  have HS : Hid (∀ W, Below B0 w W → Calls Tryz.prog 8 #[.agg ui.toArray] W fun e w' => e = .returned (.tuple #[.int .i64 (sizeF I).1, .int .i64 (sizeF I).2]) ∧ Below W.heap.size W w') := fun W hW => sizeX (HA.out.below (hB0 ▸ hW)) HZ.out
  have HHe : Hid (∀ W, Below (B0 + 1) W0 W → W.heap[B0]? = some (.cells ui.toArray 37 (0, 0)) ∧ Below B0 w W) := fun W hW => ⟨(hW.block B0 (Nat.lt_succ_self _)).trans HX0.out, HB0.out.trans (hW.mono (Nat.le_succ _))⟩
  have HSz0 : Hid (B0 + 1 ≤ W0.heap.size) := show _ ≤ _ by
    have := (Array.getElem?_eq_some_iff.1 HX0.out).1
    omega
  have hE1 := HE.out W0 HB0.out
  have HE1 := Lib.hid hE1
  clear hE1 HE
  have HHx := HX0.out
  go_wp2_with (refine wpList_load_arr rfl 37 (.tmp 2) rfl (b := B0) (g := ui.toArray) rfl HX0.out Tryz.underlying37 rfl HInu.out ?_)
  refine HE1.out.mono ?_
  rintro e w1 ⟨he, hb1⟩
  have HB1 : Hid (Below (B0 + 1) W0 w1) := hb1.mono HSz0.out
  have HX1 := Lib.hid (HHe.out _ HB1.out).1
  have HS1 := Lib.hid (HS.out _ (HHe.out _ HB1.out).2)
  have HL1 : Hid (W0.heap.size ≤ w1.heap.size) := hb1.size
  clear hb1 HE1 HS HHx
  obtain ⟨z1, hz1⟩ : ∃ z, (sizeF I).1 = z := ⟨_, rfl⟩
  obtain ⟨z2, hz2⟩ : ∃ z, (sizeF I).2 = z := ⟨_, rfl⟩
  have HZ1 := Lib.hid hz1
  have HZ2 := Lib.hid hz2
  rw [hz1, hz2] at HS1
  rw [hz2] at he hm
  clear hz1 hz2
  rcases he with ⟨hn, rfl⟩ | ⟨hn, g, rfl, hg, hr⟩
  · have hm' : must = false := by
      cases must with
      | true => exact absurd (hm rfl) hn
      | false => rfl
    subst hm'
    have hz10 : z1 = 0 := by
      have h1 := HZ1.out
      have h2 := HZ2.out
      unfold sizeF at h1 h2
      split at h2
      · rename_i hh
        rw [if_pos hh] at h1
        exact h1.symm
      · rename_i hh
        rw [if_neg hh] at h1
        split at h2
        · rename_i hh2
          rw [if_pos hh2] at h1
          exact h1.symm
        · exact absurd h2.symm hn
    subst hz10
    clear hm
    go_wp2_with (refine wpList_load_arr rfl 37 (.tmp 2) rfl (b := B0) (g := ui.toArray) rfl HX1.out Tryz.underlying37 rfl HInu.out ?_)
    refine HS1.out.mono ?_
    rintro e w2 ⟨rfl, hb2⟩
    have HF : Hid (Below B0 w w2) := (HHe.out _ (HB1.out.trans (hb2.mono (Nat.le_trans HSz0.out HL1.out)))).2
    clear hb2
    go_wp2_with fail
    go_ret
    exact ⟨rfl, HF.out⟩
  · subst hn
    clear hm
    have HR := Lib.hid hr
    have hnl : (encF I).length = 4096 * ((stN I 9).1.length / 4096) ∧ z1 = (((stN I 9).1.length / 4096 : Nat) : Int) ∧ (stN I 9).1.length / 4096 ≤ 1024 := by
      obtain ⟨p1, p2, p3, p4, p5, p6, p7⟩ := enc_parts HZ2.out
      refine ⟨by omega, ?_, p4⟩
      rw [← HZ1.out, sizeF, if_neg (fun e => e p1), if_neg (by omega)]
    obtain ⟨hn1, hn2, hn3⟩ := hnl
    obtain ⟨N, hN⟩ : ∃ N, (encF I).length = N := ⟨_, rfl⟩
    obtain ⟨m, hm⟩ : ∃ m, (stN I 9).1.length / 4096 = m := ⟨_, rfl⟩
    rw [hN, hm] at hn1
    rw [hm] at hn2 hn3
    have HN := Lib.hid hN
    subst hn2
    obtain ⟨J, hdec, hal, hKJ⟩ := back_all HK.out HZ2.out
    have HDec := Lib.hid hdec
    have HAl : Hid (alike I J) := hal
    have HKJ : Hid (ImK J) := hKJ
    have HG : Hid (w1.heap.size > g ∧ W0.heap.size ≤ g) := ⟨(Array.getElem?_eq_some_iff.1 hr).1, hg⟩
    rw [hN]
    have HN1 : Hid (N = 4096 * m ∧ m ≤ 1024) := ⟨hn1, hn3⟩
    clear hr hg hN hm hdec hal hKJ HZ1 hn1 hn3
    go_wp2_with (refine wpList_load_arr rfl 37 (.tmp 2) rfl (b := B0) (g := ui.toArray) rfl HX1.out Tryz.underlying37 rfl HInu.out ?_)
    refine HS1.out.mono ?_
    rintro e w2 ⟨rfl, hb2⟩
    have HB2 : Hid (Below (B0 + 1) W0 w2) := HB1.out.trans (hb2.mono (Nat.le_trans HSz0.out HL1.out))
    have HR2 : Hid (Row w2 g (encF I)) := (hb2.block g HG.out.1).trans HR.out
    have HSl : Hid (∀ W, Below w2.heap.size w2 W → Sl W (.slice (some ⟨g, 0, none⟩) N N) (encF I)) := fun W hW => by
      have h9 := row_sl HR2.out (sm_enc I) (enc_le HZ.out)
      rw [HN.out] at h9
      exact h9.below hW
    have HD := Lib.hid (decodeX (HSl.out w2 (Below.refl _ _)) (HT.out.below (hB0 ▸ (HHe.out _ HB2.out).2)))
    have HBs : Hid (B0 + 1 ≤ w2.heap.size) := Nat.le_trans (Nat.le_trans HSz0.out HL1.out) hb2.size
    have HIe : Hid (∀ {W : World} {im : List Value}, im.length = 12 → ImD W im J → ImA W im J) := fun hl hi => hi.imA hl (by
      have h9 := dec_imJ (sm_enc I) (by rw [HDec.out])
      rw [HDec.out] at h9
      exact h9)
    clear hb2 HS1 HX1 HR HB1 HL1
    have hw0 : (decA (encF I)).why = 0 := by rw [HDec.out]
    have HW0 := Lib.hid hw0
    clear hw0
    go_wp2_with fail
    refine HD.out.mono ?_
    rintro e w3 ⟨he, hb3⟩
    rcases he with ⟨hw9, im, rfl, hl, hi⟩ | ⟨hn, _⟩
    · clear hw9
      rw [HDec.out] at hi
      obtain ⟨k9, hk9⟩ : ∃ k, w3.heap.size = k := ⟨_, rfl⟩
      have HL := Lib.hid hl
      have HO : Hid (im.toArray.all (·.oneCell') = true) := hi.one hl
      have HIn9 : Hid ((Tryz.prog.info? 37).map (·.size) = some im.toArray.size) := info_im hl
      have HJ3 := Lib.hid (HIe.out hl hi)
      have HB3 : Hid (Below (B0 + 1) W0 w3) := HB2.out.trans (hb3.mono HBs.out)
      have HR3 : Hid (Row w3 g (encF I)) := (hb3.block g (Array.getElem?_eq_some_iff.1 HR2.out).1).trans HR2.out
      have s1 : (w3.alloc (.cells im0.toArray 37)).heap.size = k9 + 1 := by simp [hk9]
      have hA0 : (w3.alloc (.cells im0.toArray 37)).heap[k9]? = some (.cells im0.toArray 37 (0, 0)) := hk9 ▸ heap_alloc_new w3 _
      have hA1 : ((w3.alloc (.cells im0.toArray 37)).alloc (.cells (whA 0 0) 41)).heap[k9]? = some (.cells im0.toArray 37 (0, 0)) := (Below.heap_alloc _ _ k9 (by rw [s1]; omega)).trans hA0
      have hB1 : ((w3.alloc (.cells im0.toArray 37)).alloc (.cells (whA 0 0) 41)).heap[k9 + 1]? = some (.cells (whA 0 0) 41 (0, 0)) := by
        have := heap_alloc_new (w3.alloc (.cells im0.toArray 37)) (.cells (whA 0 0) 41)
        rw [s1] at this
        exact this
      have hb4 : Below w3.heap.size w3 ((w3.alloc (.cells im0.toArray 37)).alloc (.cells (whA 0 0) 41)) := ((Below.refl _ _).alloc (Nat.le_refl _) _).alloc (by rw [s1]; omega) _
      have HA1 := Lib.hid hA1
      have HB1 : Hid ((((w3.alloc (.cells im0.toArray 37)).alloc (.cells (whA 0 0) 41)).setRow k9 im.toArray).heap[k9 + 1]? = some (.cells (whA 0 0) 41 (0, 0))) := show _ = _ by rw [row_ne (by omega) _]; exact hB1
      have HX9 : Hid (((((w3.alloc (.cells im0.toArray 37)).alloc (.cells (whA 0 0) 41)).setRow k9 im.toArray).setRow (k9 + 1) (whA 0 0)).heap[k9]? = some (.cells im.toArray 37 (0, 0))) := show _ = _ by rw [row_ne (by omega) _]; exact setRow_heap _ _ _ _ _ _ hA1
      have HW9 : Hid (((((w3.alloc (.cells im0.toArray 37)).alloc (.cells (whA 0 0) 41)).setRow k9 im.toArray).setRow (k9 + 1) (whA 0 0)).heap[k9 + 1]? = some (.cells (whA 0 0) 41 (0, 0))) := setRow_heap _ _ _ _ _ _ HB1.out
      have HB4 : Hid (Below w3.heap.size w3 ((((w3.alloc (.cells im0.toArray 37)).alloc (.cells (whA 0 0) 41)).setRow k9 im.toArray).setRow (k9 + 1) (whA 0 0))) := (hb4.trans (below_setRow _ _ _ _ (by omega))).trans (below_setRow _ _ _ _ (by omega))
      clear hl hi hb3 s1 hA0 hA1 hB1 hb4 HD HR2 HSl HIe
      go_upto_region 6 with (first | (refine wpList_store_arr rfl 37 (.tmp 9) (.tmp 50) rfl (b := k9) (Z := im0.toArray) (g := im.toArray) rfl rfl rfl HA1.out HIn9.out (by simp [HL.out, im0]) HO.out ?_) | (refine wpList_store_arr rfl 41 (.tmp 10) (.tmp 51) rfl (b := k9 + 1) (Z := whA 0 0) (g := whA 0 0) rfl rfl rfl HB1.out (info_wh 0 0) rfl (by kernel_rfl) ?_))
      show Code.wp _ _ _ _ ((((w3.alloc (.cells im0.toArray 37)).alloc (.cells (whA 0 0) 41)).setRow k9 im.toArray).setRow (k9 + 1) (whA 0 0))
      generalize ((((w3.alloc (.cells im0.toArray 37)).alloc (.cells (whA 0 0) 41)).setRow k9 im.toArray).setRow (k9 + 1) (whA 0 0)) = W4 at *
      have hG3 := HB3.out.size
      have HB4' : Hid (Below (B0 + 1) W0 W4) := HB3.out.trans (HB4.out.mono (by have := HSz0.out; omega))
      have HR4 : Hid (Row W4 g (encF I)) := (HB4.out.block g (Array.getElem?_eq_some_iff.1 HR3.out).1).trans HR3.out
      have HJ4 : Hid (ImA W4 im J) := HJ3.out.below HB4.out
      have HsI : Hid (szI J ≤ 20000000000) := show _ ≤ _ by rw [← sz_same HAl.out]; exact HZ.out
      have HzJ : Hid (sizeF J = sizeF I) := (size_same HAl.out).symm
      have HeJ : Hid (encF J = encF I) := (enc_same HAl.out).symm
      have hE2 := encodeX HJ4.out (HT.out.below (hB0 ▸ (HHe.out _ HB4'.out).2)) HsI.out
      rw [HzJ.out, HZ2.out, HeJ.out] at hE2
      have HE2 := Lib.hid hE2
      clear hE2 HJ3 HR3 HB3 HA1 HB1 HB4 HO hk9 hG3
      go_wp2_with (refine wpList_load_arr rfl 37 (.tmp 9) rfl (b := k9) (g := im.toArray) rfl HX9.out Tryz.underlying37 rfl HIn9.out ?_)
      refine HE2.out.mono ?_
      rintro e w5 ⟨he, hb5⟩
      rcases he with ⟨hn, _⟩ | ⟨_, g2, rfl, _, hr⟩
      · exact absurd rfl hn
      have HR5 := Lib.hid hr
      have HB5 : Hid (Below (B0 + 1) W0 w5) := HB4'.out.trans (hb5.mono (Nat.le_trans HSz0.out HB4'.out.size))
      have HR5b : Hid (Row w5 g (encF I)) := (hb5.block g (Array.getElem?_eq_some_iff.1 HR4.out).1).trans HR4.out
      have HX5 : Hid (w5.heap[k9]? = some (.cells im.toArray 37 (0, 0))) := (hb5.block k9 (Array.getElem?_eq_some_iff.1 HX9.out).1).trans HX9.out
      have HW5 : Hid (w5.heap[k9 + 1]? = some (.cells (whA 0 0) 41 (0, 0))) := (hb5.block (k9 + 1) (Array.getElem?_eq_some_iff.1 HW9.out).1).trans HW9.out
      have HU5 := Lib.hid (HHe.out _ HB5.out).1
      have HJ5 : Hid (ImA w5 im J) := HJ4.out.below hb5
      have HF5 : Hid (Below B0 w w5) := (HHe.out _ HB5.out).2
      have HI5 : Hid (ImA w5 ui I) := HA.out.below (hB0 ▸ HF5.out)
      have HwN : Hid (IntKind.i64.wrap (4096 * (m : Int)) = (N : Int)) := show _ = _ by
        obtain ⟨h1, h2⟩ := HN1.out
        rw [IntKind.wrap_i64]
        omega
      have hwN := HwN.out
      have HlW := Lib.hid (ld_wh HW5.out)
      have HlU := Lib.hid (ld_im HU5.out HInu.out)
      have HlJ := Lib.hid (ld_im HX5.out HIn9.out)
      have HC := Lib.hid (sameX HI5.out HJ5.out)
      rw [HN.out]
      have HSb : Hid (∀ W, Below w5.heap.size w5 W → Calls Tryz.prog 14 #[.slice (some ⟨g, 0, none⟩) N N, .slice (some ⟨g2, 0, none⟩) N N] W (YN (encF I = encF I) W)) := fun W hW => by
        have h1 := row_bytes HR5b.out (enc_le HZ.out)
        have h2 := row_bytes HR5.out (enc_le HZ.out)
        rw [HN.out] at h1 h2
        exact sameBytesX (h1.below hW) (h2.below hW)
      clear hr hb5 HE2 HX9 HW9 HR4 HJ4 HB4' HsI HzJ HeJ HI5 HJ5 HU5 HX5 HW5 HR5 HR5b HIn9 HInu HwN
      go_wp2_with (first | (refine wpList_load_tyG (by kernel_rfl) 41 (.tmp 10) rfl rfl HlW.out ?_) | (refine wpList_load_tyG (by kernel_rfl) 37 (.tmp 2) rfl rfl HlU.out ?_) | (refine wpList_load_tyG (by kernel_rfl) 37 (.tmp 9) rfl rfl HlJ.out ?_) | (refine wpList_eql_wh (by kernel_rfl) (.tmp 68) (.tmp 69) rfl (p := 0) (q := 0) (r := 0) (s := 0) (b := true) rfl rfl (by decide) ?_))
      refine HC.out.mono ?_
      rintro e w6 ⟨r, rfl, hr, hb6⟩
      cases r with
      | false => exact absurd (hr.2 HAl.out) (by decide)
      | true =>
      have HS6 := Lib.hid (HSb.out w6 hb6)
      have HF6 : Hid (Below B0 w w6) := HF5.out.trans (hb6.mono (by have := HF5.out.size; omega))
      clear hr hb6 HC HSb HF5
      go_wp2_with fail
      refine HS6.out.mono ?_
      rintro e w7 ⟨r, rfl, hr, hb7⟩
      cases r with
      | false => exact absurd (hr.2 (by first | exact rfl | trivial)) (by decide)
      | true =>
      have HF7 : Hid (Below B0 w w7) := HF6.out.trans (hb7.mono (by have := HF6.out.size; omega))
      clear hr hb7 HS6
      go_wp2_with fail
      go_ret
      exact ⟨rfl, HF7.out⟩
    · exact absurd HW0.out hn
end Go.Proofs.YtnifefmfhjfbnaaGreatDoor
/- Bundle: there and back: the law. Own work. -/
namespace Go.Proofs.YtnifefmfhjfbnaaGreatDoor
open Go.RowKit Bn Dc
set_option linter.unusedVariables false
set_option linter.unusedSimpArgs false
set_option maxRecDepth 100000 in
set_option maxHeartbeats 8000000 in
theorem bundleBack_walk {w : World} {ui : List Value} {I : Im} (ht : Tab w) (hI : ImW w ui I) : Calls Tryz.prog 4 #[.agg ui.toArray] w (LQ w) := by
  have HInu := Lib.hid (info_im hI.len)
  have HT := Lib.hid ht
  have HI := Lib.hid hI
  have HB0 : Hid (Below w.heap.size w (w.alloc (.cells ui.toArray 37))) := (Below.refl _ _).alloc (Nat.le_refl _) _
  have HX0 : Hid ((w.alloc (.cells ui.toArray 37)).heap[w.heap.size]? = some (.cells ui.toArray 37 (0, 0))) := heap_alloc_new w _
  clear ht hI
  go_enter Tryz.func4, Tryz.ntmps4
  go_upto_region 1 with fail
  generalize (w.alloc (.cells ui.toArray 37)) = W0 at *
  go_wp2_with fail
  refine smallX.mono ?_
  rintro e w1 ⟨rfl, hs1, hz1, hb1⟩
  generalize W0.heap.size = B1 at hs1 hz1 ⊢
  have HB1 : Hid (Below w.heap.size w w1) := HB0.out.trans (hb1.mono HB0.out.size)
  have HX1 : Hid (w1.heap[w.heap.size]? = some (.cells ui.toArray 37 (0, 0))) := (hb1.block _ (Array.getElem?_eq_some_iff.1 HX0.out).1).trans HX0.out
  have HC := Lib.hid (back_any (must := true) (HT.out.below HB1.out) hs1.im (Nat.le_trans (small_sz _) (by decide)) (fun _ => small_size true))
  clear hs1 hz1 hb1 HB0 HX0
  go_wp2_with fail
  refine HC.out.mono ?_
  rintro e w2 ⟨rfl, hb2⟩
  have HB2 : Hid (Below w.heap.size w w2) := HB1.out.trans (hb2.mono HB1.out.size)
  have HX2 : Hid (w2.heap[w.heap.size]? = some (.cells ui.toArray 37 (0, 0))) := (hb2.block _ (Array.getElem?_eq_some_iff.1 HX1.out).1).trans HX1.out
  have HL2 := Lib.hid (ld_im HX2.out HInu.out)
  have HH := Lib.hid (heavyX (HI.out.below HB2.out))
  clear hb2 HC HB1 HX1
  go_wp2_with (refine wpList_load_tyG (by kernel_rfl) 37 (.tmp 1) rfl rfl HL2.out ?_)
  refine HH.out.mono ?_
  rintro e w3 ⟨r, rfl, hr, hb3⟩
  have HB3 : Hid (Below w.heap.size w w3) := HB2.out.trans (hb3.mono HB2.out.size)
  have HX3 : Hid (w3.heap[w.heap.size]? = some (.cells ui.toArray 37 (0, 0))) := (hb3.block _ (Array.getElem?_eq_some_iff.1 HX2.out).1).trans HX2.out
  have HL3 := Lib.hid (ld_im HX3.out HInu.out)
  clear hb3 HH HB2 HX2 HL2
  cases r with
  | true =>
    clear hr
    go_wp2_with fail
    go_ret
    exact ⟨rfl, HB3.out⟩
  | false =>
    have hc := hr rfl
    have HC := Lib.hid (back_any (must := false) (HT.out.below HB3.out) ((HI.out.a hc).below HB3.out) (szI_le hc) (fun h => by cases h))
    clear hr hc
    go_wp2_with (refine wpList_load_tyG (by kernel_rfl) 37 (.tmp 1) rfl rfl HL3.out ?_)
    refine HC.out.mono ?_
    rintro e w4 ⟨rfl, hb4⟩
    have HB4 : Hid (Below w.heap.size w w4) := HB3.out.trans (hb4.mono HB3.out.size)
    clear hb4 HC
    go_wp2_with fail
    go_ret
    exact ⟨rfl, HB4.out⟩
end Go.Proofs.YtnifefmfhjfbnaaGreatDoor
