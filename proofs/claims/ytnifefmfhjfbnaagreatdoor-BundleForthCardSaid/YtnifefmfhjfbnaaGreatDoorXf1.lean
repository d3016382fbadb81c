import Derived.Test.YtnifefmfhjfbnaaGreatDoorPk47
import Derived.Test.YtnifefmfhjfbnaaGreatDoorXf0
import Derived.Test.YtnifefmfhjfbnaaGreatDoorPk01
/- Bundle: bytes that are taken are those of the image that is told: the law. Own work. -/
namespace Go.Proofs.YtnifefmfhjfbnaaGreatDoor
open Go.RowKit Bn Dc
set_option linter.unusedVariables false
set_option linter.unusedSimpArgs false
theorem imz_A (w : World) : ImA w im0 zeroI := (ImD.zero w 0).imA rfl ⟨⟨Nat.zero_le _, fun _ h => (nomatch h), fun _ h => (nomatch h), fun _ h => (nomatch h), fun _ h => (nomatch h)⟩, fun _ h => (nomatch h), fun _ h => (nomatch h), fun _ h => (nomatch h), fun _ h => (nomatch h), fun _ h => (nomatch h), by show I64R 0; unfold I64R; omega, by show I64R 0; unfold I64R; omega⟩
theorem alike_refl (I : Im) : alike I I := ⟨rfl, rfl, rfl, ⟨rfl, rfl⟩, rfl, rfl, rfl, rfl, rfl, rfl, rfl⟩
/-- small, and then back -/
theorem small_back {w : World} (ht : Tab w) : ∀ {B : Nat} {W : World}, Below w.heap.size w W → SmA W B true → Calls Tryz.prog 11 #[.agg (smIm B).toArray, .bool true] W (LQ W) := fun hW hs => back_any (ht.below hW) hs.im (Nat.le_trans (small_sz _) (by decide)) (fun _ => small_size true)
set_option maxRecDepth 100000 in
set_option maxHeartbeats 16000000 in
theorem bundleForth_walk {w : World} {v : Value} {bs : List Nat} (ht : Tab w) (hs : Sl w v bs) : Calls Tryz.prog 5 #[v] w (LQ w) := by
  have HT := Lib.hid ht
  have HS := Lib.hid hs
  have HD := Lib.hid (decodeX hs ht)
  have hbs : ∀ z ∈ bs, z < 256 := by obtain ⟨_, _, _, _, _, h, _⟩ := hs; exact h
  have HBs := Lib.hid hbs
  obtain ⟨ao, cap, hv, _⟩ := id hs
  subst hv
  obtain ⟨y, hy⟩ : ∃ y, (decA bs).why = y := ⟨_, rfl⟩
  obtain ⟨sec, hsec⟩ : ∃ y, (decA bs).sec = y := ⟨_, rfl⟩
  obtain ⟨ad, had⟩ : ∃ y, (decA bs).ad = y := ⟨_, rfl⟩
  have HY := Lib.hid hy
  have HPl := Lib.hid (dec_place bs)
  rw [hsec, had] at HPl
  have HQ : Hid (∀ e w', DecQ bs e w' → (y = 0 ∧ ∃ im, e = .returned (.tuple #[.agg im.toArray, .agg (whA 0 0), .int .i64 0]) ∧ im.length = 12 ∧ ImA w' im (decA bs).J) ∨ (y ≠ 0 ∧ e = .returned (.tuple #[.agg im0.toArray, .agg (whA sec ad), .int .i64 y]))) := fun e w' h => by
    rw [← hy, ← hsec, ← had]
    rcases h with ⟨h1, im, h2, h3, h4⟩ | h
    · exact .inl ⟨h1, im, h2, h3, h4.imA h3 (dec_imJ hbs h1)⟩
    · exact .inr h
  obtain ⟨N, hN⟩ : ∃ N, bs.length = N := ⟨_, rfl⟩
  have HN := Lib.hid hN
  rw [hN] at HD HS HPl ⊢
  clear ht hs hbs hy hsec had hN
  go_enter Tryz.func5, Tryz.ntmps5
  go_wp2_with fail
  refine HD.out.mono ?_
  rintro e w3 ⟨he, hb3⟩
  have he2 := HQ.out _ _ he
  have HB3 : Hid (Below w.heap.size w w3) := hb3
  clear he hb3 HD HQ
  obtain ⟨k9, hk9⟩ : ∃ k, w3.heap.size = k := ⟨_, rfl⟩
  have key : ∀ (im : List Value) (p q : Int), ∃ W4, (((w3.alloc (.cells im0.toArray 37)).alloc (.cells (whA 0 0) 41)).setRow k9 im.toArray).setRow (k9 + 1) (whA p q) = W4 ∧ ((w3.alloc (.cells im0.toArray 37)).alloc (.cells (whA 0 0) 41)).heap[k9]? = some (.cells im0.toArray 37 (0, 0)) ∧ (((w3.alloc (.cells im0.toArray 37)).alloc (.cells (whA 0 0) 41)).setRow k9 im.toArray).heap[k9 + 1]? = some (.cells (whA 0 0) 41 (0, 0)) ∧ W4.heap[k9]? = some (.cells im.toArray 37 (0, 0)) ∧ W4.heap[k9 + 1]? = some (.cells (whA p q) 41 (0, 0)) ∧ Below w3.heap.size w3 W4 := fun im p q => by
    have s1 : (w3.alloc (.cells im0.toArray 37)).heap.size = k9 + 1 := by simp [hk9]
    have hA0 : (w3.alloc (.cells im0.toArray 37)).heap[k9]? = some (.cells im0.toArray 37 (0, 0)) := hk9 ▸ heap_alloc_new w3 _
    have hA1 : ((w3.alloc (.cells im0.toArray 37)).alloc (.cells (whA 0 0) 41)).heap[k9]? = some (.cells im0.toArray 37 (0, 0)) := (Below.heap_alloc _ _ k9 (by rw [s1]; omega)).trans hA0
    have hB1 : ((w3.alloc (.cells im0.toArray 37)).alloc (.cells (whA 0 0) 41)).heap[k9 + 1]? = some (.cells (whA 0 0) 41 (0, 0)) := by
      have := heap_alloc_new (w3.alloc (.cells im0.toArray 37)) (.cells (whA 0 0) 41)
      rw [s1] at this
      exact this
    have hb4 : Below w3.heap.size w3 ((w3.alloc (.cells im0.toArray 37)).alloc (.cells (whA 0 0) 41)) := ((Below.refl _ _).alloc (Nat.le_refl _) _).alloc (by rw [s1]; omega) _
    have hB2 : (((w3.alloc (.cells im0.toArray 37)).alloc (.cells (whA 0 0) 41)).setRow k9 im.toArray).heap[k9 + 1]? = some (.cells (whA 0 0) 41 (0, 0)) := by rw [row_ne (by omega) _]; exact hB1
    refine ⟨_, rfl, hA1, hB2, ?_, setRow_heap _ _ _ _ _ _ hB2, (hb4.trans (below_setRow _ _ _ _ (by omega))).trans (below_setRow _ _ _ _ (by omega))⟩
    rw [row_ne (by omega) _]
    exact setRow_heap _ _ _ _ _ _ hA1
  rcases he2 with ⟨hy0, im, rfl, hl, hi⟩ | ⟨hy0, rfl⟩
  · subst hy0
    obtain ⟨W4, hW4, hA1, hB1, hX, hW, hb4⟩ := key im 0 0
    have HIn9 := Lib.hid (info_im hl)
    have HOn : Hid (im.toArray.all (·.oneCell') = true) := hi.one
    have HL : Hid (im.length = 12) := hl
    have HA1 := Lib.hid hA1
    have HB1 := Lib.hid hB1
    have HX := Lib.hid hX
    have HW := Lib.hid hW
    have HB4 : Hid (Below w.heap.size w W4) := HB3.out.trans (hb4.mono HB3.out.size)
    have HJ4 : Hid (ImA W4 im (decA bs).J) := hi.below hb4
    obtain ⟨f1, f2, f3, f4⟩ := forth_all HBs.out HY.out
    have hE := encodeX HJ4.out (HT.out.below HB4.out) (dec_sz HBs.out HY.out)
    rw [f2, f3, HN.out] at hE
    have HE := Lib.hid hE
    have HNl : Hid (N ≤ 4194304) := HN.out ▸ f4
    clear f1 f2 f3 f4 hE hi hl hX hW hA1 hB1 hb4 key
    go_upto_region 4 with (first | (refine wpList_store_arr rfl 37 (.tmp 3) (.tmp 11) rfl (b := k9) (Z := im0.toArray) (g := im.toArray) rfl rfl rfl HA1.out HIn9.out (by simp [HL.out, im0]) HOn.out ?_) | (refine wpList_store_arr rfl 41 (.tmp 4) (.tmp 12) rfl (b := k9 + 1) (Z := whA 0 0) (g := whA 0 0) rfl rfl rfl HB1.out (info_wh 0 0) rfl (by kernel_rfl) ?_))
    show Code.wp _ _ _ _ ((((w3.alloc (.cells im0.toArray 37)).alloc (.cells (whA 0 0) 41)).setRow k9 im.toArray).setRow (k9 + 1) (whA 0 0))
    rw [hW4]
    clear hW4 hk9 HA1 HB1 HOn
    go_wp2_with (refine wpList_load_arr rfl 37 (.tmp 3) rfl (b := k9) (g := im.toArray) rfl HX.out Tryz.underlying37 rfl HIn9.out ?_)
    refine HE.out.mono ?_
    rintro e w5 ⟨he, hb5⟩
    rcases he with ⟨hn, _⟩ | ⟨_, g2, rfl, _, hr⟩
    · exact absurd rfl hn
    have HB5 : Hid (Below w.heap.size w w5) := HB4.out.trans (hb5.mono HB4.out.size)
    have HW5 : Hid (w5.heap[k9 + 1]? = some (.cells (whA 0 0) 41 (0, 0))) := (hb5.block (k9 + 1) (Array.getElem?_eq_some_iff.1 HW.out).1).trans HW.out
    have HlW := Lib.hid (ld_wh HW5.out)
    have HSb : Hid (Calls Tryz.prog 14 #[.slice ao N cap, .slice (some ⟨g2, 0, none⟩) N N] w5 (YN (bs = bs) w5)) := by
      have h1 := sl_bytes (HS.out.below HB5.out)
      have h2 := row_bytes hr (by rw [HN.out]; have := HNl.out; unfold maxLen; omega)
      rw [HN.out] at h2
      exact sameBytesX h1 h2
    clear hr hb5 HE HX HW HJ4 HW5 HB4 HB3
    go_wp2_with (first | (refine wpList_load_tyR rfl 41 (.tmp 4) rfl rfl HlW.out ?_) | (refine wpList_eql_wh (by kernel_rfl) (.tmp 50) (.tmp 51) rfl (p := 0) (q := 0) (r := 0) (s := 0) (b := true) rfl rfl (by decide) ?_))
    refine HSb.out.mono ?_
    rintro e w6 ⟨r, rfl, hr, hb6⟩
    cases r with
    | false => exact absurd (hr.2 (by first | exact rfl | trivial)) (by decide)
    | true =>
    have HB6 : Hid (Below w.heap.size w w6) := HB5.out.trans (hb6.mono HB5.out.size)
    clear hr hb6 HSb HB5 HlW
    go_wp2_with fail
    refine smallX.mono ?_
    rintro e w7 ⟨rfl, hs1, hz1, hb1⟩
    have HB7 : Hid (Below w.heap.size w w7) := HB6.out.trans (hb1.mono HB6.out.size)
    have HC := Lib.hid (small_back HT.out HB7.out hs1)
    clear hs1 hz1 hb1 HB6
    go_wp2_with fail
    refine HC.out.mono ?_
    rintro e w8 ⟨rfl, hb8⟩
    have HB8 : Hid (Below w.heap.size w w8) := HB7.out.trans (hb8.mono HB7.out.size)
    clear hb8 HC HB7
    go_wp2_with fail
    go_ret
    exact ⟨rfl, HB8.out⟩
  · obtain ⟨W4, hW4, hA1, hB1, hX, hW, hb4⟩ := key im0 sec ad
    have HA1 := Lib.hid hA1
    have HB1 := Lib.hid hB1
    have HX := Lib.hid hX
    have HW := Lib.hid hW
    have HB4 : Hid (Below w.heap.size w W4) := HB3.out.trans (hb4.mono HB3.out.size)
    have HlJ := Lib.hid (ld_im HX.out (info_im rfl))
    have HC := Lib.hid (sameX (imz_A W4) (imz_A W4))
    clear hX hW hA1 hB1 hb4 key
    go_upto_region 3 with (first | (refine wpList_store_arr rfl 37 (.tmp 3) (.tmp 11) rfl (b := k9) (Z := im0.toArray) (g := im0.toArray) rfl rfl rfl HA1.out (info_im rfl) rfl (by kernel_rfl) ?_) | (refine wpList_store_arr rfl 41 (.tmp 4) (.tmp 12) rfl (b := k9 + 1) (Z := whA 0 0) (g := whA sec ad) rfl rfl rfl HB1.out (info_wh sec ad) rfl (by kernel_rfl) ?_))
    show Code.wp _ _ _ _ ((((w3.alloc (.cells im0.toArray 37)).alloc (.cells (whA 0 0) 41)).setRow k9 im0.toArray).setRow (k9 + 1) (whA sec ad))
    rw [hW4]
    clear hW4 hk9 HA1 HB1
    go_wp2_with (refine wpList_load_tyR rfl 37 (.tmp 3) rfl rfl HlJ.out ?_)
    refine HC.out.mono ?_
    rintro e w6 ⟨r, rfl, hr, hb6⟩
    cases r with
    | false => exact absurd (hr.2 (alike_refl _)) (by decide)
    | true =>
    have HB6 : Hid (Below w.heap.size w w6) := HB4.out.trans (hb6.mono HB4.out.size)
    have HW6 : Hid (w6.heap[k9 + 1]? = some (.cells (whA sec ad) 41 (0, 0))) := (hb6.block (k9 + 1) (Array.getElem?_eq_some_iff.1 HW.out).1).trans HW.out
    have x0 : w6.cell? ⟨k9 + 1, 0, none⟩ = some (.int .i64 sec) := (cell_of_row _ _ _ _ _ _ HW6.out).trans rfl
    have x1 : w6.cell? ⟨k9 + 1, 1, none⟩ = some (.int .i64 ad) := (cell_of_row _ _ _ _ _ _ HW6.out).trans rfl
    obtain ⟨⟨p1, p2⟩, p3, p4⟩ := HPl.out
    have q1 : decide (sec ≥ (0 : Int)) = true := decide_eq_true p1
    have q2 : decide (sec ≤ (8 : Int)) = true := decide_eq_true p2
    have q3 : decide (ad ≥ (0 : Int)) = true := decide_eq_true p3
    have q4 : decide (ad ≤ (N : Int)) = true := decide_eq_true p4
    clear hr hb6 HC HX HW HlJ HB4 HW6
    go_wp2_with fail
    refine smallX.mono ?_
    rintro e w7 ⟨rfl, hs1, hz1, hb1⟩
    have HB7 : Hid (Below w.heap.size w w7) := HB6.out.trans (hb1.mono HB6.out.size)
    have HC := Lib.hid (small_back HT.out HB7.out hs1)
    clear hs1 hz1 hb1 HB6 x0 x1
    go_wp2_with fail
    refine HC.out.mono ?_
    rintro e w8 ⟨rfl, hb8⟩
    have HB8 : Hid (Below w.heap.size w w8) := HB7.out.trans (hb8.mono HB7.out.size)
    clear hb8 HC HB7
    go_wp2_with fail
    go_ret
    exact ⟨rfl, HB8.out⟩
end Go.Proofs.YtnifefmfhjfbnaaGreatDoor
/- BundleForth: its row and its card. -/
namespace Go.Proofs.YtnifefmfhjfbnaaGreatDoor.bundleForth
open Go.ChangeShapes Go.WideShapes Go.ChangeAt Go.RowKit
open Go.ChangeMaps (open_string shut_string)

set_option maxRecDepth 100000 in
theorem contract (H : Type) (enc : TypeId × Value → H) (W : World) (base : Nat) (args : Array Value) (ds gs : List (DataW H)) (before : List MemPlace)
    (hval : ∀ (j : Nat) t v, Tryz.f5.params[j]? = some t → args[j]? = some v → Value.okWide Tryz.prog W .any base t v)
    (hW : DataW.Whole enc Tryz.prog Tryz.f5.params.toList Rows.bundleForthSpec.vars false W args.toList ds gs before) (hL : laidMetH Tryz.prog Rows.bundleForthRow.laid W) :
    Calls Tryz.prog 5 args W fun e W' => ∃ v, e = .returned v ∧ Rows.bundleForthSpec.post enc Tryz.prog Tryz.f5 false true false false W args v W' := by
  have hW' := hW
  obtain ⟨p, q, hA0, hV, rfl, hfz, hnd⟩ := hW
  have hA : DataW.TrodAll enc Tryz.prog W 0 (fun _ => true) true Tryz.f5.params.toList args.toList ds p := hA0
  rw [Tryz.params5] at hA hval
  obtain ⟨v0, vs0, d0, ds0, p0, q0, hargs, rfl, rfl, h0, r0⟩ := trodAll_cons hA
  obtain ⟨rfl, rfl, rfl⟩ := trodAll_nil r0
  obtain rfl : args = #[v0] := by cases args; simp_all
  obtain ⟨a0, len0, cap0, rfl⟩ := okWide_slice Tryz.underlying22 (hval 0 22 v0 rfl rfl)
  have k0 := h0
  have lt0 : ∀ x ∈ p0, x.block < W.heap.size := by obtain ⟨m, hm⟩ := k0; exact DataW.trod_lt m _ _ _ hm
  obtain ⟨z0, w0⟩ : ∃ zs, IsRow .u8 W a0 len0 cap0 zs := by
    obtain ⟨fuel, hf⟩ := h0
    rcases open_ints Tryz.underlying22 Tryz.underlying5 (by kernel_rfl) hf with ⟨hcs, _⟩ | ⟨x, l, c, zs, hcs, _, hl, hm, hz, _, hcell, hwz⟩
    · simp [Value.cells] at hcs
      obtain ⟨rfl, rfl, rfl⟩ := hcs
      exact ⟨[], .inl ⟨rfl, rfl, rfl, rfl⟩⟩
    · simp [Value.cells] at hcs
      obtain ⟨rfl, rfl, rfl⟩ := hcs
      exact ⟨zs, .inr ⟨_, rfl, hl, hm, by simpa using hz, hcell, hwz⟩⟩
  obtain ⟨rfl, rfl⟩ := trodVars_none hV
  clear hA0
  have ht := tab_of hL
  obtain ⟨p, hpl, hp⟩ := sl_isrow w0
  refine (bundleForth_walk ht hp).mono fun e W' ⟨he, bel⟩ => ?_
  subst he
  exact ⟨_, rfl, _, _, _, [], _, [], hW', trodAll_mk1 (shut_bool Tryz.underlying4 _), (trodAll_cons_mk (Below.trod laidOut (by kernel_rfl) (of_decide_eq_true (by kernel_rfl)) k0 bel lt0) trodAll_mk0), rfl, bel.frame _, fun h => by cases h⟩

theorem laid_met (os : Os) : laidMet Tryz.prog Rows.bundleForthRow.laid ((laidWorld os).forCall (fun _ _ => 0) ⟨#[], #[.slice none 0 0], []⟩).memory :=
  laidMet_of_run' 8 (by kernel_rfl) (by kernel_rfl)
theorem reads (os : Os) {H : Type} (enc : TypeId × Value → H) : ∃ places, DataW.whole enc Tryz.prog ((laidWorld os).forCall (fun _ _ => 0) ⟨#[], #[.slice none 0 0], []⟩).memory Tryz.f5.params.toList Rows.bundleForthSpec.vars false (#[.slice none 0 0] : Array Value).toList 8 = some ([.nil], [], places) :=
  ⟨[], by kernel_rfl⟩
set_option maxRecDepth 100000 in
theorem lifted (os : Os) (started : os.Started) (H : Type) (enc : TypeId × Value → H) (F : Stop.Interp) :
    ReturnsInHanded {} Tryz.checked os 5 .any ((OpenSpec.ofChange Rows.bundleForthSpec).preRow enc Tryz.prog Tryz.f5 Rows.bundleForthRow.domain false Rows.bundleForthRow.laid) (((OpenSpec.ofChange Rows.bundleForthSpec).at F).post enc Tryz.prog Tryz.f5 false true false false) := by
  obtain ⟨places, hx⟩ := reads os enc
  refine returnsInHanded_of_row (C := Tryz.checked) (s := OpenSpec.ofChange Rows.bundleForthSpec) ownKnobs started (by kernel_rfl) Tryz.func5
    (witness_row_at (enc := enc) (C := Tryz.checked) false (laidWorld os) #[.slice none 0 0] rfl (by kernel_rfl) (by kernel_rfl) (by kernel_rfl)
      (OpenSpec.preRow_of_cond 8 hx (by kernel_rfl) (fun k hk => by cases hk) (by kernel_rfl) (laid_met os))) ?_
  intro W base args ds gs before hval hW _ _ _ hL _ _
  exact contract H enc W base args ds gs before hval hW hL
theorem said : Rows.BundleForthSaid :=
  OpenClaim.holds_of_cond 5 Tryz.f5 rfl rfl rfl rfl rfl rfl rfl ⟨rfl, rfl, rfl, rfl, rfl⟩ rfl rfl rfl rfl rfl (by kernel_rfl) Tryz.func5 (by kernel_rfl)
    (of_decide_eq_true (by kernel_rfl)) (by unfold Func.isWrapper; first | (rw [if_pos (by decide +kernel)]; kernel_rfl) | (rw [if_neg (by decide +kernel)]; exact ⟨rfl, rfl⟩))
    (fun os started H enc _ F => by rw [OpenClaim.pre_eq_preRow]; exact lifted os started H enc F)
theorem plain (f : FuncId) (fn : Func) (hf : Tryz.pinned.checked.prog.funcNamed "bulkhead/bulkheadlaw13.BundleForth" = some f) (hfn : Tryz.pinned.checked.prog.funcs[f]? = some fn) :
    false = Tryz.pinned.checked.prog.looks [] ∧ ∀ (j : Nat) t, fn.params[j]? = some t → Tryz.pinned.checked.prog.wantsStandIn t = false := by
  obtain rfl : f = 5 := Option.some.inj ((show Tryz.prog.funcNamed "bulkhead/bulkheadlaw13.BundleForth" = some 5 by kernel_rfl).symm.trans hf) |>.symm
  obtain rfl : fn = Tryz.f5 := (Option.some.inj (Tryz.func5.symm.trans hfn)).symm
  refine ⟨by kernel_rfl, fun j t ht => ?_⟩
  have hall : Tryz.f5.params.all (fun t => Tryz.prog.wantsStandIn t == false) = true := by kernel_rfl
  have := Array.all_eq_true_iff_forall_mem.1 hall t (Array.mem_of_getElem? ht)
  exact beq_iff_eq.1 this
theorem card : Rows.BundleForthCardSaid :=
  Claim7.holds_tied_plain_at .later [] _ _ _ _ said (fun _ h => by cases h) (by kernel_rfl) (fun _ h => by cases h) bundleForth_row_tie rfl ⟨rfl, rfl⟩ (by kernel_rfl) rfl plain (by kernel_rfl)
#print axioms card
end Go.Proofs.YtnifefmfhjfbnaaGreatDoor.bundleForth
