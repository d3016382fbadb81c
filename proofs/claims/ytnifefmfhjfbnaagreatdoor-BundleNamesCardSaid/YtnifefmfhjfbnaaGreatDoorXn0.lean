import Derived.Test.YtnifefmfhjfbnaaGreatDoorPk45
import Derived.Test.YtnifefmfhjfbnaaGreatDoorPk47
import Derived.Test.YtnifefmfhjfbnaaGreatDoorPk01
/- Bundle: the zero image's bytes. Plain. Own work. -/
namespace Go.Proofs.YtnifefmfhjfbnaaGreatDoor
open Bn Dc
set_option linter.unusedVariables false
namespace Dc
theorem z_size : sizeF zeroI = (1, 0) := by decide +kernel
theorem z_len : (encF zeroI).length = 4096 := by decide +kernel
theorem z_magic : (encF zeroI).take 8 = [66, 85, 76, 75, 72, 69, 65, 68] := by decide +kernel
theorem z_bytes : (encF zeroI).getD 8 0 = 1 ∧ (encF zeroI).getD 10 0 = 8 ∧ (encF zeroI).getD 12 0 = 1 ∧ (encF zeroI).getD 24 0 = 1 ∧ (encF zeroI).getD 28 0 = 160 ∧ (encF zeroI).getD 32 0 = 8 := by decide +kernel
theorem head_x {I : Im} (hI : ImK I) (hw : (sizeF I).2 = 0) : (hd0 (encF I)).x = ⟨magB, 1, 8, (stN I 9).1.length / 4096, I.base, Pl.crc (hdP I (stN I 9).1 8), 0⟩ ∧ (encF I).take 152 = hdP I (stN I 9).1 8 ∧ (hd0 (encF I)).s = fw ⟨0, 0, 0, 0, 0⟩ 160 := by
  obtain ⟨h0, hlen, h4096, hcnt, h160, hdrop, htake⟩ := enc_parts hw
  have hN := size_why I hw
  have hzl : ∀ k, k ≤ 9 → (stN I k).1.length ≤ (stN I 9).1.length := fun k hk => stN_mono I k 9 hk
  have hE : ∀ j, 1 ≤ j → j ≤ 8 → enOk (entI I j) := fun j h1 h2 => by
    have a := fst_len I j (by omega)
    have b := hzl (j + 1) (by omega)
    have c : Pl.crc (secZ I (stN I 9).1 j) ≤ 4294967295 := crc_lt (fun z hz => sm_st I 9 z (List.mem_of_mem_drop (List.mem_of_mem_take hz)))
    refine ⟨?_, ?_, ?_, ?_, ?_⟩
    · show j < 65536; omega
    · show 0 < 65536; omega
    · show fstN I j < 4294967296; omega
    · show lenN I j < 4294967296; omega
    · show Pl.crc _ < 4294967296; omega
  have hP : ∀ i, i ≤ 8 → hdP I (stN I 9).1 i = magB ++ Pl.le 2 1 ++ Pl.le 2 8 ++ Pl.le 4 ((stN I 9).1.length / 4096) ++ Pl.le 8 I.base ++ ensB (entI I) i := fun i => by
    induction i with
    | zero => intro _; rw [hdP, ensB, List.append_nil]
    | succ i ih =>
      intro hi
      have he : entB (i + 1) (fstN I (i + 1)) (lenN I (i + 1)) (Pl.crc (secZ I (stN I 9).1 (i + 1))) = enB (entI I (i + 1)) := by
        unfold entB enB
        simp only [List.append_assoc]
        rfl
      rw [hdP, ih (by omega), ensB, he, List.append_assoc]
  have hH : (encF I).take 160 = hxB ⟨magB, 1, 8, (stN I 9).1.length / 4096, I.base, Pl.crc (hdP I (stN I 9).1 8), 0⟩ (entI I) := by
    rw [htake, hdF, hP 8 (Nat.le_refl 8)]
    unfold hxB
    simp only [List.append_assoc]
  have h152 : (encF I).take 152 = hdP I (stN I 9).1 8 := by
    have e1 : (encF I).take 152 = ((encF I).take 160).take 152 := by rw [List.take_take]; rfl
    rw [e1, htake, hdF, List.append_assoc, List.take_left' (by rw [hdP_len])]
  have hZ : (hq (encF I)).Z = hxB ⟨magB, 1, 8, (stN I 9).1.length / 4096, I.base, Pl.crc (hdP I (stN I 9).1 8), 0⟩ (entI I) := by
    rw [← hH]
    rfl
  have hZl : (hq (encF I)).Z.length = 160 := by
    rw [hZ]
    simp only [hxB, List.length_append, Pl.le_length, ensB_len]
    rfl
  have hA : Ah (hq (encF I)) ⟨0, 0, 0, 0, 0⟩ (hxB ⟨magB, 1, 8, (stN I 9).1.length / 4096, I.base, Pl.crc (hdP I (stN I 9).1 8), 0⟩ (entI I)) := ⟨rfl, by rw [← hZ]; exact Nat.le_of_eq (Nat.zero_add _), [], by rw [List.append_nil, ← hZ]; rfl⟩
  have hc8 : Pl.crc (hdP I (stN I 9).1 8) ≤ 4294967295 := crc_lt (sm_hdP I _ 8)
  obtain ⟨x1, x2, x3⟩ := hd_back hA rfl (by show (1 : Nat) < 65536; decide) (by show (8 : Nat) < 65536; decide) (by show (stN I 9).1.length / 4096 < _; omega) (by show I.base < _; have := hI.base; omega) (by show Pl.crc _ < _; omega) (by show (0 : Nat) < 4294967296; decide) hE
  exact ⟨x1, h152, x2⟩
theorem asks_short {bs : List Nat} {x : Hd} {s : D} (h1 : x.T = mg) (h2 : x.n1 = 1) (h3 : x.n2 = 8) (h4 : x.sm = Pl.crc (bs.take 152)) (h5 : x.zr = 0) (h6 : x.cnt ≤ 1024) (h7 : bs.length < x.cnt * 4096) (hs : s.why = 0) : asksD bs x s = ⟨s.pos, s.rw, 10, 0, (bs.length : Int)⟩ := by
  unfold asksD
  rw [ask_ok (decide_eq_true h1), ask_ok (decide_eq_true h2), ask_ok (decide_eq_true h3), ask_ok (decide_eq_true h4), ask_ok (decide_eq_true h5), ask_ok (decide_eq_true h6)]
  have e : askD (decide (x.cnt * 4096 ≤ bs.length)) 10 0 (bs.length : Int) s = ⟨s.pos, s.rw, 10, 0, (bs.length : Int)⟩ := by
    unfold askD
    rw [decide_eq_false (by omega), if_pos ⟨rfl, hs⟩]
  have e2 : askD (decide (bs.length ≤ x.cnt * 4096)) 12 0 ((x.cnt * 4096 : Nat) : Int) ⟨s.pos, s.rw, 10, 0, (bs.length : Int)⟩ = ⟨s.pos, s.rw, 10, 0, (bs.length : Int)⟩ := ask_why (show ¬ (10 : Int) = 0 by decide)
  rw [e, e2]
  exact ask_why (show ¬ (10 : Int) = 0 by decide)
theorem z_kind : ImK zeroI := ⟨Nat.zero_le _, fun _ h => (nomatch h), fun _ h => (nomatch h), fun _ h => (nomatch h), fun _ h => (nomatch h)⟩
/-- a byte fewer -/
theorem z_short : (decA ((encF zeroI).take 4095)).why = 10 ∧ (decA ((encF zeroI).take 4095)).sec = 0 ∧ (decA ((encF zeroI).take 4095)).ad = 4095 := by
  have hw : (sizeF zeroI).2 = 0 := by rw [z_size]
  obtain ⟨hx, h152, hs⟩ := head_x z_kind hw
  obtain ⟨h0, hlen, h4096, hcnt, h160, hdrop, htake⟩ := enc_parts hw
  have hl := z_len
  obtain ⟨bs, hbs⟩ : ∃ b, encF zeroI = b := ⟨_, rfl⟩
  rw [hbs] at hx h152 hs hl hlen
  rw [hbs]
  have hq1 : hq (bs.take 4095) = hq bs := by
    unfold hq
    rw [List.drop_zero, List.drop_zero, List.take_take, Nat.min_eq_left (by omega)]
  have hh : hd0 (bs.take 4095) = hd0 bs := by unfold hd0; rw [hq1]
  have hN : (bs.take 4095).length = 4095 := by rw [List.length_take]; omega
  have h152' : (bs.take 4095).take 152 = bs.take 152 := by rw [List.take_take, Nat.min_eq_left (by omega)]
  have hs9 : (stN zeroI 9).1.length = 4096 := hlen.symm.trans hl
  have hc : (hd0 bs).x.cnt = 1 := by
    rw [hx]
    dsimp only
    rw [hs9]
  have hA : asksD (bs.take 4095) (hd0 (bs.take 4095)).x (hd0 (bs.take 4095)).s = ⟨160, 0, 10, 0, 4095⟩ := by
    rw [hh, asks_short (by rw [hx]; rfl) (by rw [hx]) (by rw [hx]) (by rw [hx, h152', h152]) (by rw [hx]) (by rw [hc]; omega) (by rw [hN, hc]; omega) (by rw [hs]; rfl), hs, hN]
    rfl
  have hd : ∀ k, dirS (hd0 (bs.take 4095)).E (bs.take 4095).length k ⟨160, 0, 10, 0, 4095⟩ = ⟨160, 0, 10, 0, 4095⟩ := fun k => dirS_stop (k := 0) (s := ⟨160, 0, 10, 0, 4095⟩) (show ¬ (10 : Int) = 0 by decide) k (Nat.zero_le _)
  have hS : headS (bs.take 4095) = ⟨160, 0, 10, 0, 4095⟩ := by
    unfold headS
    rw [hA, hd]
    exact sealS_stop (k := 0) (s := ⟨160, 0, 10, 0, 4095⟩) (show ¬ (10 : Int) = 0 by decide) 8 (Nat.zero_le _)
  have hE : endD (hq (bs.take 4095)) (headS (bs.take 4095)) = ⟨160, 0, 10, 0, 4095⟩ := by
    rw [hS]
    exact form_why _ _ _ _ (show ¬ (10 : Int) = 0 by decide)
  have hP : prA (bs.take 4095) 0 = ⟨{ zeroI with base := (hd0 (bs.take 4095)).x.base }, 10, 0, 4095⟩ := by
    show headA (bs.take 4095) = _
    unfold headA
    rw [hE]
  have hD : decA (bs.take 4095) = prA (bs.take 4095) 0 := dec_at (by omega) (Nat.zero_le _) (by rw [hP]; show ¬ (10 : Int) = 0; decide)
  rw [hD, hP]
  exact ⟨rfl, rfl, rfl⟩
end Dc
end Go.Proofs.YtnifefmfhjfbnaaGreatDoor
/- Bundle: the closed sentence. Own work. -/
namespace Go.Proofs.YtnifefmfhjfbnaaGreatDoor
open Go.RowKit Bn Dc
set_option linter.unusedVariables false
set_option linter.unusedSimpArgs false
theorem imz_A (w : World) : ImA w im0 zeroI := (ImD.zero w 0).imA rfl ⟨⟨Nat.zero_le _, fun _ h => (nomatch h), fun _ h => (nomatch h), fun _ h => (nomatch h), fun _ h => (nomatch h)⟩, fun _ h => (nomatch h), fun _ h => (nomatch h), fun _ h => (nomatch h), fun _ h => (nomatch h), fun _ h => (nomatch h), by show I64R 0; unfold I64R; omega, by show I64R 0; unfold I64R; omega⟩
theorem szI_zero : szI zeroI ≤ 20000000000 := by decide
theorem sl_front {w : World} {g : Nat} {zs : List Nat} {n : Nat} (h : Row w g zs) (hz : ∀ z ∈ zs, z < 256) (hn : n ≤ zs.length) (hm : zs.length ≤ maxLen) : Sl w (.slice (some ⟨g, 0, none⟩) n zs.length) (zs.take n) := by
  have h9 := sl_of_row (f := 0) (l := n) (c := zs.length) (ad := 0) h hz (by omega) hn hm (.inl rfl)
  rwa [List.drop_zero] at h9
theorem row_get {w : World} {g : Nat} {zs : List Nat} (h : Row w g zs) {i : Nat} (hi : i < zs.length) : w.cell? ⟨g, i, none⟩ = some (.int .u8 (zs.getD i 0 : Nat)) := by
  rw [cell_of_row _ _ _ _ _ _ h]
  simpa using bvs_get zs i hi
theorem keyW (w3 : World) {k9 : Nat} (hk9 : w3.heap.size = k9) (im : List Value) (p q : Int) : ∃ W4, (((w3.alloc (.cells im0.toArray 37)).alloc (.cells (whA 0 0) 41)).setRow k9 im.toArray).setRow (k9 + 1) (whA p q) = W4 ∧ ((w3.alloc (.cells im0.toArray 37)).alloc (.cells (whA 0 0) 41)).heap[k9]? = some (.cells im0.toArray 37 (0, 0)) ∧ (((w3.alloc (.cells im0.toArray 37)).alloc (.cells (whA 0 0) 41)).setRow k9 im.toArray).heap[k9 + 1]? = some (.cells (whA 0 0) 41 (0, 0)) ∧ W4.heap[k9]? = some (.cells im.toArray 37 (0, 0)) ∧ W4.heap[k9 + 1]? = some (.cells (whA p q) 41 (0, 0)) ∧ Below w3.heap.size w3 W4 := by
  have s1 : (w3.alloc (.cells im0.toArray 37)).heap.size = k9 + 1 := by simp [hk9]
  have hA0 : (w3.alloc (.cells im0.toArray 37)).heap[k9]? = some (.cells im0.toArray 37 (0, 0)) := hk9 ▸ heap_alloc_new w3 _
  have hA1 : ((w3.alloc (.cells im0.toArray 37)).alloc (.cells (whA 0 0) 41)).heap[k9]? = some (.cells im0.toArray 37 (0, 0)) := (Below.heap_alloc _ _ k9 (by rw [s1]; omega)).trans hA0
  have hB1 : ((w3.alloc (.cells im0.toArray 37)).alloc (.cells (whA 0 0) 41)).heap[k9 + 1]? = some (.cells (whA 0 0) 41 (0, 0)) := by
    have := heap_alloc_new (w3.alloc (.cells im0.toArray 37)) (.cells (whA 0 0) 41)
    rw [s1] at this
    exact this
  have hb4 : Below w3.heap.size w3 ((w3.alloc (.cells im0.toArray 37)).alloc (.cells (whA 0 0) 41)) := ((Below.refl _ _).alloc (Nat.le_refl _) _).alloc (by rw [s1]; omega) _
  have hB2 : (((w3.alloc (.cells im0.toArray 37)).alloc (.cells (whA 0 0) 41)).setRow k9 im.toArray).heap[k9 + 1]? = some (.cells (whA 0 0) 41 (0, 0)) := by rw [row_ne (by omega) _]; exact hB1
  refine ⟨_, rfl, hA1, hB2, ?_, setRow_heap _ _ _ _ _ _ hB2, (hb4.trans (below_setRow _ _ _ _ (by omega))).trans (below_setRow _ _ _ _ (by omega))⟩
  rw [row_ne (by omega) _]
  exact setRow_heap _ _ _ _ _ _ hA1
theorem wpList_val {w : World} {ops : Array Oper} {rest : List Oper} {o : Oper} {a : Act} {Q : Exit → Act → World → Prop} (hw : Region.wanted o (yielded ops a.tmps) = true) {V : Value} (h : (execOp a.eval o).run Tryz.prog w = .ok (.value V) w) (hk : wpList Tryz.prog ops Q rest (a.put o.dst V) w) : wpList Tryz.prog ops Q (o :: rest) a w :=
  wpList_wanted hw (by
    unfold Oper.wp
    simp only [h]
    exact hk)
theorem alike_symm {I J : Im} (h : alike I J) : alike J I := by
  obtain ⟨h1, h2, h3, ⟨h4, h5⟩, h6, h7, h8, h9, h10, h11, h12⟩ := h
  exact ⟨h1.symm, h2.symm, h3.symm, ⟨h4.symm, h5.symm⟩, h6.symm, h7.symm, h8.symm, h9.symm, h10.symm, h11.symm, h12.symm⟩
set_option maxRecDepth 100000 in
set_option maxHeartbeats 16000000 in
theorem bundleNames_walk {w : World} (ht : Tab w) : Calls Tryz.prog 3 #[] w (LQ w) := by
  have HT := Lib.hid ht
  have hE := encodeX (imz_A w) ht szI_zero
  rw [z_size, z_len] at hE
  have HE := Lib.hid hE
  clear ht hE
  go_enter Tryz.func3, Tryz.ntmps3
  go_wp2_with fail
  refine HE.out.mono ?_
  rintro e w1 ⟨he, hb1⟩
  rcases he with ⟨hn, _⟩ | ⟨_, g, rfl, _, hr⟩
  · exact absurd rfl hn
  have HR := Lib.hid hr
  have HB1 : Hid (Below w.heap.size w w1) := hb1
  have hS := sizeX (imz_A w1) szI_zero
  rw [z_size] at hS
  have HS := Lib.hid hS
  clear hr hb1 hS HE
  go_wp2_with fail
  refine HS.out.mono ?_
  rintro e w2 ⟨rfl, hb2⟩
  have HB2 : Hid (Below w.heap.size w w2) := HB1.out.trans (hb2.mono HB1.out.size)
  have HR2 : Hid (Row w2 g (encF zeroI)) := (hb2.block g (Array.getElem?_eq_some_iff.1 HR.out).1).trans HR.out
  have hl := z_len
  obtain ⟨y0, y1, y2, y3, y4, y5⟩ := z_bytes
  have x0 := row_get HR2.out (i := 8) (by omega)
  have x1 := row_get HR2.out (i := 10) (by omega)
  have x2 := row_get HR2.out (i := 12) (by omega)
  have x3 := row_get HR2.out (i := 24) (by omega)
  have x4 := row_get HR2.out (i := 28) (by omega)
  have x5 := row_get HR2.out (i := 32) (by omega)
  rw [y0] at x0
  rw [y1] at x1
  rw [y2] at x2
  rw [y3] at x3
  rw [y4] at x4
  rw [y5] at x5
  have HSl : Hid (∀ W, Below w2.heap.size w2 W → Sl W (.slice (some ⟨g, 0, none⟩) 4096 4096) (encF zeroI)) := fun W hW => by
    have h9 := row_sl HR2.out (sm_enc zeroI) (by rw [z_len]; unfold maxLen; omega)
    rw [z_len] at h9
    exact h9.below hW
  have HSf : Hid (∀ n, n ≤ 4096 → ∀ W, Below w2.heap.size w2 W → Sl W (.slice (some ⟨g, 0, none⟩) n 4096) ((encF zeroI).take n)) := fun n hn W hW => by
    have h9 := sl_front HR2.out (sm_enc zeroI) (n := n) (by rw [z_len]; exact hn) (by rw [z_len]; unfold maxLen; omega)
    rw [z_len] at h9
    exact h9.below hW
  have hc8 := HSf.out 8 (by omega) w2 (Below.refl _ _)
  have HCv : Hid (∀ (oo : Oper) (a : Act) (x : Operand), oo.op = .convert 22 9 x → a.eval x = .slice (some ⟨g, 0, none⟩) 8 4096 → (execOp a.eval oo).run Tryz.prog w2 = .ok (.value (.string ⟨#[66, 85, 76, 75, 72, 69, 65, 68]⟩)) w2) := fun oo a x ho hx => by
    have h9 := conv_run ho hx hc8
    rw [z_magic] at h9
    exact h9
  obtain ⟨J, hdec, hal, hKJ⟩ := back_all z_kind (by rw [z_size])
  have HDec := Lib.hid hdec
  have HAl : Hid (alike zeroI J) := hal
  have HD := Lib.hid (decodeX (HSl.out w2 (Below.refl _ _)) (HT.out.below HB2.out))
  have HW0 : Hid ((decA (encF zeroI)).why = 0) := show _ = _ by rw [HDec.out]
  have HIe : Hid (∀ {W : World} {im : List Value}, im.length = 12 → ImD W im J → ImA W im J) := fun hl hi => hi.imA hl (by
    have h9 := dec_imJ (sm_enc zeroI) (by rw [HDec.out])
    rw [HDec.out] at h9
    exact h9)
  clear hl y0 y1 y2 y3 y4 y5 hc8 hdec hal hKJ HS HR HB1
  go_upto_region 7 with (refine wpList_val (by kernel_rfl) (HCv.out _ _ (.tmp 38) rfl rfl) ?_)
  clear x0 x1 x2 x3 x4 x5 HCv
  go_wp2_with fail
  refine HD.out.mono ?_
  rintro e w3 ⟨he, hb3⟩
  have HB3 : Hid (Below w2.heap.size w2 w3) := hb3
  clear hb3 HD
  rcases he with ⟨hw9, im, rfl, hl, hi⟩ | ⟨hn, _⟩
  · clear hw9
    rw [HDec.out] at hi
    obtain ⟨k9, hk9⟩ : ∃ k, w3.heap.size = k := ⟨_, rfl⟩
    obtain ⟨W4, hW4, hA1, hB1, hX, hW, hb4⟩ := keyW w3 hk9 im 0 0
    have HIn9 := Lib.hid (info_im hl)
    have HOn : Hid (im.toArray.all (·.oneCell') = true) := hi.one hl
    have HL : Hid (im.length = 12) := hl
    have HA1 := Lib.hid hA1
    have HBb := Lib.hid hB1
    have HX := Lib.hid hX
    have HW := Lib.hid hW
    have HB4 : Hid (Below w2.heap.size w2 W4) := HB3.out.trans (hb4.mono HB3.out.size)
    have HJ4 : Hid (ImA W4 im J) := (HIe.out hl hi).below hb4
    have HD2 := Lib.hid (decodeX (HSf.out 4095 (by omega) W4 HB4.out) (HT.out.below (HB2.out.trans (HB4.out.mono HB2.out.size))))
    clear hi hl hX hW hA1 hB1 hb4 HIe HSl
    go_upto_region 8 with (first | (refine wpList_store_arr rfl 37 (.tmp 5) (.tmp 81) rfl (b := k9) (Z := im0.toArray) (g := im.toArray) rfl rfl rfl HA1.out HIn9.out (by simp [HL.out, im0]) HOn.out ?_) | (refine wpList_store_arr rfl 41 (.tmp 6) (.tmp 82) rfl (b := k9 + 1) (Z := whA 0 0) (g := whA 0 0) rfl rfl rfl HBb.out (info_wh 0 0) rfl (by kernel_rfl) ?_))
    show Code.wp _ _ _ _ ((((w3.alloc (.cells im0.toArray 37)).alloc (.cells (whA 0 0) 41)).setRow k9 im.toArray).setRow (k9 + 1) (whA 0 0))
    rw [hW4]
    clear hW4 hk9 HA1 HBb
    go_wp2_with fail
    refine HD2.out.mono ?_
    rintro e w5 ⟨he, hb5⟩
    have he2 : e = .returned (.tuple #[.agg im0.toArray, .agg (whA 0 4095), .int .i64 10]) := by
      obtain ⟨s1, s2, s3⟩ := z_short
      rcases he with ⟨h1, _⟩ | ⟨_, h2⟩
      · rw [s1] at h1
        exact absurd h1 (show ¬ (10 : Int) = 0 by decide)
      · rw [s1, s2, s3] at h2
        exact h2
    subst he2
    have HB5 : Hid (Below w2.heap.size w2 w5) := HB4.out.trans (hb5.mono HB4.out.size)
    have HX5 : Hid (w5.heap[k9]? = some (.cells im.toArray 37 (0, 0))) := (hb5.block k9 (Array.getElem?_eq_some_iff.1 HX.out).1).trans HX.out
    have HW5 : Hid (w5.heap[k9 + 1]? = some (.cells (whA 0 0) 41 (0, 0))) := (hb5.block (k9 + 1) (Array.getElem?_eq_some_iff.1 HW.out).1).trans HW.out
    have HJ5 : Hid (ImA w5 im J) := HJ4.out.below hb5
    obtain ⟨k8, hk8⟩ : ∃ k, w5.heap.size = k := ⟨_, rfl⟩
    obtain ⟨W6, hW6, hA1, hB1, hX, hW, hb6⟩ := keyW w5 hk8 im0 0 4095
    have HA1 := Lib.hid hA1
    have HBb := Lib.hid hB1
    have HB6 : Hid (Below w2.heap.size w2 W6) := HB5.out.trans (hb6.mono HB5.out.size)
    have HX6 : Hid (W6.heap[k9]? = some (.cells im.toArray 37 (0, 0))) := (hb6.block k9 (Array.getElem?_eq_some_iff.1 HX5.out).1).trans HX5.out
    have HW6 : Hid (W6.heap[k9 + 1]? = some (.cells (whA 0 0) 41 (0, 0))) := (hb6.block (k9 + 1) (Array.getElem?_eq_some_iff.1 HW5.out).1).trans HW5.out
    have HV6 := Lib.hid hW
    have HJ6 : Hid (ImA W6 im J) := HJ5.out.below hb6
    have HlW := Lib.hid (ld_wh HW6.out)
    have HlV := Lib.hid (ld_wh HV6.out)
    have HlJ := Lib.hid (ld_im HX6.out HIn9.out)
    have HC := Lib.hid (sameX HJ6.out (imz_A W6))
    clear he hb5 hX hW hA1 hB1 hb6 HX HW HJ4 HX5 HW5 HJ5 HD2 HOn
    go_upto_region 9 with (first | (refine wpList_store_arr rfl 37 (.tmp 8) (.tmp 88) rfl (b := k8) (Z := im0.toArray) (g := im0.toArray) rfl rfl rfl HA1.out (info_im rfl) rfl (by kernel_rfl) ?_) | (refine wpList_store_arr rfl 41 (.tmp 9) (.tmp 89) rfl (b := k8 + 1) (Z := whA 0 0) (g := whA 0 4095) rfl rfl rfl HBb.out (info_wh 0 4095) rfl (by kernel_rfl) ?_))
    show Code.wp _ _ _ _ ((((w5.alloc (.cells im0.toArray 37)).alloc (.cells (whA 0 0) 41)).setRow k8 im0.toArray).setRow (k8 + 1) (whA 0 4095))
    rw [hW6]
    clear hW6 hk8 HA1 HBb
    go_wp2_with (first | (refine wpList_load_tyG (by kernel_rfl) 41 (.tmp 6) rfl rfl HlW.out ?_) | (refine wpList_load_tyG (by kernel_rfl) 37 (.tmp 5) rfl rfl HlJ.out ?_) | (refine wpList_eql_wh (by kernel_rfl) (.tmp 94) (.tmp 95) rfl (p := 0) (q := 0) (r := 0) (s := 0) (b := true) rfl rfl (by decide) ?_))
    refine HC.out.mono ?_
    rintro e w7 ⟨r, rfl, hr, hb7⟩
    cases r with
    | false => exact absurd (hr.2 (alike_symm HAl.out)) (by decide)
    | true =>
    have HB7 : Hid (Below w.heap.size w w7) := HB2.out.trans ((HB6.out.trans (hb7.mono HB6.out.size)).mono HB2.out.size)
    have HV7 : Hid (w7.heap[k8 + 1]? = some (.cells (whA 0 4095) 41 (0, 0))) := (hb7.block (k8 + 1) (Array.getElem?_eq_some_iff.1 HV6.out).1).trans HV6.out
    have HlX := Lib.hid (ld_wh HV7.out)
    clear hr hb7 HC HlW HlV HlJ HX6 HW6 HV6 HV7 HJ6 HB6 HB5 HB4 HB3 HB2
    go_wp2_with (first | (refine wpList_load_tyG (by kernel_rfl) 41 (.tmp 9) rfl rfl HlX.out ?_) | (refine wpList_eql_wh (by kernel_rfl) (.tmp 108) (.tmp 109) rfl (p := 0) (q := 4095) (r := 0) (s := 4095) (b := true) rfl rfl (by decide) ?_))
    go_ret
    exact ⟨rfl, HB7.out⟩
  · exact absurd HW0.out hn
end Go.Proofs.YtnifefmfhjfbnaaGreatDoor
/- BundleNames: its row and its card. -/
namespace Go.Proofs.YtnifefmfhjfbnaaGreatDoor.bundleNames
open Go.ChangeShapes Go.WideShapes Go.ChangeAt Go.RowKit
open Go.ChangeMaps (open_string shut_string)

set_option maxRecDepth 100000 in
theorem contract (H : Type) (enc : TypeId × Value → H) (W : World) (base : Nat) (args : Array Value) (ds gs : List (DataW H)) (before : List MemPlace)
    (hval : ∀ (j : Nat) t v, Tryz.f3.params[j]? = some t → args[j]? = some v → Value.okWide Tryz.prog W .any base t v)
    (hW : DataW.Whole enc Tryz.prog Tryz.f3.params.toList Rows.bundleNamesSpec.vars false W args.toList ds gs before) (hL : laidMetH Tryz.prog Rows.bundleNamesRow.laid W) :
    Calls Tryz.prog 3 args W fun e W' => ∃ v, e = .returned v ∧ Rows.bundleNamesSpec.post enc Tryz.prog Tryz.f3 false true false false W args v W' := by
  have hW' := hW
  obtain ⟨p, q, hA0, hV, rfl, hfz, hnd⟩ := hW
  have hA : DataW.TrodAll enc Tryz.prog W 0 (fun _ => true) true Tryz.f3.params.toList args.toList ds p := hA0
  rw [Tryz.params3] at hA hval
  obtain ⟨rfl, rfl, rfl⟩ := trodAll_none hA
  obtain ⟨rfl, rfl⟩ := trodVars_none hV
  clear hA0
  have ht := tab_of hL
  refine (bundleNames_walk ht).mono fun e W' ⟨he, bel⟩ => ?_
  subst he
  exact ⟨_, rfl, _, _, _, [], _, [], hW', trodAll_mk1 (shut_bool Tryz.underlying4 _), trodAll_mk0, rfl, bel.frame _, fun h => by cases h⟩

theorem laid_met (os : Os) : laidMet Tryz.prog Rows.bundleNamesRow.laid ((laidWorld os).forCall (fun _ _ => 0) ⟨#[], #[], []⟩).memory :=
  laidMet_of_run' 8 (by kernel_rfl) (by kernel_rfl)
theorem reads (os : Os) {H : Type} (enc : TypeId × Value → H) : ∃ places, DataW.whole enc Tryz.prog ((laidWorld os).forCall (fun _ _ => 0) ⟨#[], #[], []⟩).memory Tryz.f3.params.toList Rows.bundleNamesSpec.vars false (#[] : Array Value).toList 8 = some ([], [], places) :=
  ⟨[], by kernel_rfl⟩
set_option maxRecDepth 100000 in
theorem lifted (os : Os) (started : os.Started) (H : Type) (enc : TypeId × Value → H) (F : Stop.Interp) :
    ReturnsInHanded {} Tryz.checked os 3 .any ((OpenSpec.ofChange Rows.bundleNamesSpec).preRow enc Tryz.prog Tryz.f3 Rows.bundleNamesRow.domain false Rows.bundleNamesRow.laid) (((OpenSpec.ofChange Rows.bundleNamesSpec).at F).post enc Tryz.prog Tryz.f3 false true false false) := by
  obtain ⟨places, hx⟩ := reads os enc
  refine returnsInHanded_of_row (C := Tryz.checked) (s := OpenSpec.ofChange Rows.bundleNamesSpec) ownKnobs started (by kernel_rfl) Tryz.func3
    (witness_row_at (enc := enc) (C := Tryz.checked) false (laidWorld os) #[] rfl (by kernel_rfl) (by kernel_rfl) (by kernel_rfl)
      (OpenSpec.preRow_of_cond 8 hx (by kernel_rfl) (fun k hk => by cases hk) (by kernel_rfl) (laid_met os))) ?_
  intro W base args ds gs before hval hW _ _ _ hL _ _
  exact contract H enc W base args ds gs before hval hW hL
theorem said : Rows.BundleNamesSaid :=
  OpenClaim.holds_of_cond 3 Tryz.f3 rfl rfl rfl rfl rfl rfl rfl ⟨rfl, rfl, rfl, rfl, rfl⟩ rfl rfl rfl rfl rfl (by kernel_rfl) Tryz.func3 (by kernel_rfl)
    (of_decide_eq_true (by kernel_rfl)) (by unfold Func.isWrapper; first | (rw [if_pos (by decide +kernel)]; kernel_rfl) | (rw [if_neg (by decide +kernel)]; exact ⟨rfl, rfl⟩))
    (fun os started H enc _ F => by rw [OpenClaim.pre_eq_preRow]; exact lifted os started H enc F)
theorem plain (f : FuncId) (fn : Func) (hf : Tryz.pinned.checked.prog.funcNamed "bulkhead/bulkheadlaw13.BundleNames" = some f) (hfn : Tryz.pinned.checked.prog.funcs[f]? = some fn) :
    false = Tryz.pinned.checked.prog.looks [] ∧ ∀ (j : Nat) t, fn.params[j]? = some t → Tryz.pinned.checked.prog.wantsStandIn t = false := by
  obtain rfl : f = 3 := Option.some.inj ((show Tryz.prog.funcNamed "bulkhead/bulkheadlaw13.BundleNames" = some 3 by kernel_rfl).symm.trans hf) |>.symm
  obtain rfl : fn = Tryz.f3 := (Option.some.inj (Tryz.func3.symm.trans hfn)).symm
  refine ⟨by kernel_rfl, fun j t ht => ?_⟩
  have hall : Tryz.f3.params.all (fun t => Tryz.prog.wantsStandIn t == false) = true := by kernel_rfl
  have := Array.all_eq_true_iff_forall_mem.1 hall t (Array.mem_of_getElem? ht)
  exact beq_iff_eq.1 this
theorem card : Rows.BundleNamesCardSaid :=
  Claim7.holds_tied_plain_at .later [] _ _ _ _ said (fun _ h => by cases h) (by kernel_rfl) (fun _ h => by cases h) bundleNames_row_tie rfl ⟨rfl, rfl⟩ (by kernel_rfl) rfl plain (by kernel_rfl)
#print axioms card
end Go.Proofs.YtnifefmfhjfbnaaGreatDoor.bundleNames
