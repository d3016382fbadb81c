import Derived.Test.YtmfkggngjeolcaaGreatDoorPk25
import Derived.Test.YtmfkggngjeolcaaGreatDoorPk37
import Derived.Test.YtmfkggngjeolcaaGreatDoorPk38
import Derived.Test.YtmfkggngjeolcaaGreatDoorPk40
import Derived.Test.YtmfkggngjeolcaaGreatDoorPk19
import Derived.Test.YtmfkggngjeolcaaGreatDoorPk31
import Derived.Test.YtmfkggngjeolcaaGreatDoorPk26
/- Bundle: Same of two rows of bytes, exactly (written by parts/gen_bnsb.py). Own work. -/
namespace Go.Proofs.YtmfkggngjeolcaaGreatDoor
open Go.RowKit Bn
set_option linter.unusedVariables false
set_option linter.unusedSimpArgs false
def ubE (z : Nat) : List Value := [.int .u8 (z : Int)]
set_option maxRecDepth 100000 in
set_option maxHeartbeats 8000000 in
theorem sameBytesX {w : World} {u v : Value} {xs ys : List Nat} (hu : RowG 1 ubE w u xs) (hv : RowG 1 ubE w v ys) : Calls Tryz.prog 19 #[u, v] w (YN (xs = ys) w) := by
  have HU := Lib.hid hu
  have HV := Lib.hid hv
  obtain ⟨ao, cap, rfl, h1, h2, _⟩ := hu
  obtain ⟨bo, bap, rfl, g1, g2, _⟩ := hv
  unfold maxLen at h2 g2
  obtain ⟨n, hn⟩ : ∃ n, xs.length = n := ⟨_, rfl⟩
  obtain ⟨m, hm⟩ : ∃ m, ys.length = m := ⟨_, rfl⟩
  have HN := Lib.hid hn
  have HM := Lib.hid hm
  rw [hn] at h1 HU ⊢
  rw [hm] at g1 HV ⊢
  clear hn hm
  have HB0 : Hid (Below w.heap.size w w) := Below.refl _ _
  by_cases hnm : n = m
  · subst hnm
    go_enter Tryz.func19, Tryz.ntmps19
    go_wp2_with fail
    go_loopw [5] (fun iv wr => ∃ i : Nat, i ≤ n ∧ iv = .int .i64 (i : Int) ∧ Hid (∀ j (h1 : j < xs.length) (h2 : j < ys.length), j < i → xs[j] = ys[j]) ∧ Hid (Below w.heap.size w wr)) (fun iv _ => n - (intOf iv).toNat)
    case atStart => exact ⟨0, by omega, rfl, (fun j _ _ h => absurd h (Nat.not_lt_zero _)), HB0⟩
    clear HB0
    obtain ⟨i, hi, rfl, HEq, HB⟩ := hrel
    by_cases hin : i < n
    · have ji : (i : Int) < (n : Int) := by omega
      have hix : i < xs.length := by rw [HN.out]; exact hin
      have hiy : i < ys.length := by rw [HM.out]; exact hin
      have hw1 : IntKind.i64.wrap ((i : Int) + 1) = ((i + 1 : Nat) : Int) := by rw [IntKind.wrap_i64]; omega
      obtain ⟨_, _, e', _, _, hc⟩ := HU.out.below HB.out
      simp only [Value.slice.injEq] at e'
      obtain ⟨rfl, e9, rfl⟩ := e'
      clear e9
      obtain ⟨b, of, rfl, _, hc⟩ := hc i hix
      obtain ⟨_, _, e', _, _, hd⟩ := HV.out.below HB.out
      simp only [Value.slice.injEq] at e'
      obtain ⟨rfl, e9, rfl⟩ := e'
      clear e9
      obtain ⟨b', of', rfl, _, hd⟩ := hd i hiy
      have HNx : Hid (xs[i] = ys[i] → ∀ j (h1 : j < xs.length) (h2 : j < ys.length), j < i + 1 → xs[j] = ys[j]) := fun e j h1 h2 h3 => by
        by_cases h : j = i
        · subst h; exact e
        · exact HEq.out j h1 h2 (by omega)
      have HNo : Hid (xs[i] ≠ ys[i] → ¬ xs = ys) := fun e h => e (list_at h _ _)
      generalize xs[i] = x at *
      generalize ys[i] = y at *
      have c1 : wr.cell? ⟨b, of + i, none⟩ = some (.int .u8 (x : Int)) := by
        have := hc 0 (by decide)
        rw [Nat.mul_one, Nat.add_zero] at this
        exact this
      have c2 : wr.cell? ⟨b', of' + i, none⟩ = some (.int .u8 (y : Int)) := by
        have := hd 0 (by decide)
        rw [Nat.mul_one, Nat.add_zero] at this
        exact this
      clear hc hd
      by_cases hxy : x = y
      · subst hxy
        have HNz := Lib.hid (HNx.out rfl)
        go_upto_region 6 with fail
        go_quiet (fail)
        have HB1 : Hid (Below w.heap.size w (wr.drewN nq)) := HB.out.trans ⟨rfl, rfl, rfl, Nat.le_refl _, fun _ _ => rfl⟩
        clear HB c1 c2
        generalize (wr.drewN nq) = W1 at *
        go_wp2_with fail
        go_roundw
        case rel => exact ⟨i + 1, by omega, rfl, HNz, HB1⟩
        case measure => simp [intOf]; omega
      · have HNz := Lib.hid (HNo.out hxy)
        have jx : ¬ (x : Int) = (y : Int) := by omega
        go_upto_region 6 with fail
        go_quiet (fail)
        have HB1 : Hid (Below w.heap.size w (wr.drewN nq)) := HB.out.trans ⟨rfl, rfl, rfl, Nat.le_refl _, fun _ _ => rfl⟩
        clear HB c1 c2
        generalize (wr.drewN nq) = W1 at *
        go_wp2_with fail
        go_ret
        exact YN.no HNz.out HB1.out
    · have ji : ¬ (i : Int) < (n : Int) := by omega
      have HFin : Hid (xs = ys) := list_eq_of (by rw [HN.out, HM.out]) (fun j h1 h2 => HEq.out j h1 h2 (by rw [HN.out] at h1; omega))
      go_wp2_with fail
      go_ret
      exact YN.yes HFin.out HB.out
  · have jn : ¬ (n : Int) = (m : Int) := by omega
    have HNe : Hid (¬ xs = ys) := fun h => hnm (by rw [← HN.out, ← HM.out, h])
    go_enter Tryz.func19, Tryz.ntmps19
    go_wp2_with fail
    go_ret
    exact YN.no HNe.out HB0.out
end Go.Proofs.YtmfkggngjeolcaaGreatDoor
/- BundleEncodes: what both sides answer, as owned rows of bytes; frames of the book's Keep. Own work. -/
namespace Go.Proofs.YtmfkggngjeolcaaGreatDoor
open Go.RowKit Bn Ek
set_option linter.unusedVariables false
set_option linter.unusedSimpArgs false
/-- the bytes that are answered: none, where there is a reason -/
def wsF (I : Im) : List Nat := if (sizeF I).2 = 0 then encF I else []
theorem wsF_le {I : Im} : (wsF I).length ≤ 4198399 := by
  unfold wsF
  split
  · rename_i h0
    obtain ⟨h1, h2, h3, h4, _⟩ := Dc.enc_parts h0
    omega
  · exact Nat.zero_le _
theorem rencA {w : World} {im : List Value} {I : Im} (h : ImA w im I) (hc : cntI I < 4000000) : Calls Tryz.prog 16 #[.agg im.toArray] w fun e w' => ∃ a c, e = .returned (.tuple #[.slice a (wsF I).length c, .int .i64 (sizeF I).2]) ∧ Own w' w.heap.size (.slice a (wsF I).length c) (wsF I) ∧ Below w.heap.size w w' := by
  refine (rencX h hc).mono ?_
  rintro e w' ⟨v, rfl, h1, h2, hb⟩
  by_cases h0 : (sizeF I).2 = 0
  · have hw : wsF I = encF I := if_pos h0
    have ho := h2 h0
    obtain ⟨a, c, rfl⟩ := own_slice ho
    rw [hw]
    exact ⟨a, c, rfl, ho, hb⟩
  · have hw : wsF I = [] := if_neg h0
    rw [h1 h0, hw]
    exact ⟨none, 0, rfl, own_nil _ _, hb⟩
theorem encA {w : World} {im : List Value} {I : Im} (h : ImA w im I) (ht : Tab w) (hs : szI I ≤ 20000000000) : Calls Tryz.prog 11 #[.agg im.toArray] w fun e w' => ∃ a c, e = .returned (.tuple #[.slice a (wsF I).length c, .int .i64 (sizeF I).2]) ∧ Own w' w.heap.size (.slice a (wsF I).length c) (wsF I) ∧ Below w.heap.size w w' := by
  refine (encodeX h ht hs).mono ?_
  rintro e w' ⟨⟨h0, rfl⟩ | ⟨h0, g, rfl, hg, hr⟩, hb⟩
  · have hw : wsF I = [] := if_neg h0
    rw [hw]
    exact ⟨none, 0, rfl, own_nil _ _, hb⟩
  · have hw : wsF I = encF I := if_pos h0
    have hl := wsF_le (I := I)
    rw [hw] at hl ⊢
    rw [h0]
    exact ⟨_, _, rfl, own_of_row hr hg rfl rfl (Nat.le_refl _) (by unfold maxLen; omega) (by rw [List.take_of_length_le (Nat.le_refl _)]), hb⟩
theorem wsF_small {I : Im} {w : World} {b : Nat} {v : Value} (h : Own w b v (wsF I)) (hs : ∀ z ∈ encF I, z < 256) : ∀ z ∈ wsF I, z < 256 := by
  unfold wsF
  split
  · exact hs
  · intro z hz; cases hz
theorem ke_below {base kb : Nat} {w w' : World} (h : Below w.heap.size w w') : Ke base kb w w' := Keeps.of_below h
/-- a block that is no book and no row of rows of bytes stays -/
theorem ke_blk {base kb : Nat} {w w' : World} (h : Ke base kb w w') {cs : Array Value} (hb : w.heap[kb]? = some (.cells cs 37 (0, 0))) {b : Nat} {gs : Array Value} {t : TypeId} (hg : w.heap[b]? = some (.cells gs t (0, 0))) (h1 : t ≠ 37) (h2 : t ≠ 43) : w'.heap[b]? = some (.cells gs t (0, 0)) := by
  refine (h.block b (Array.getElem?_eq_some_iff.1 hg).1 ?_).trans hg
  rintro (rfl | ⟨_, e⟩)
  · exact h1 (tag_same ⟨_, hg⟩ ⟨_, hb⟩)
  · exact h2 (tag_same ⟨_, hg⟩ e)
/-- a twin stays, whatever a book of bytes keeps -/
theorem twin_ke {base kb : Nat} {w : World} {om : List Value} {I : Im} {cs : Array Value} (h : ∀ W, Keeps (TwK w) w W → ImA W om I) (hb : w.heap[kb]? = some (.cells cs 37 (0, 0))) : ∀ W, Ke base kb w W → ImA W om I := fun W hW => h W (hW.mono (fun k _ e => by
  rcases e with rfl | ⟨_, e⟩
  · exact .inr (.inr ⟨_, hb⟩)
  · exact .inr (.inl e)))
end Go.Proofs.YtmfkggngjeolcaaGreatDoor
/- BundleEncodes: one image, encoded twice beside the document, and kept. Own work. -/
namespace Go.Proofs.YtmfkggngjeolcaaGreatDoor
open Go.RowKit Bn Ek
set_option linter.unusedVariables false
set_option linter.unusedSimpArgs false
theorem bk_below {w w' : World} {base kb : Nat} {lv wv : Value} {held : Int} {E : List Ent} (h : Bk w base kb lv wv held E) (hb : Below w.heap.size w w') : Bk w' base kb lv wv held E := by
  have k0 : Keeps (fun _ => False) w w' := Keeps.of_below hb
  exact ⟨(hb.block kb h.lt).trans h.blk, h.lrow.keeps k0 (fun _ _ e => e), h.wrow.keeps k0 (fun _ _ e => e), h.ne, fun x hx => ⟨(h.ents x hx).l.below hb, (h.ents x hx).w.below hb, (h.ents x hx).sm⟩, h.nodup⟩
theorem alike_me (I : Im) : alike I I := ⟨rfl, rfl, rfl, ⟨rfl, rfl⟩, rfl, rfl, rfl, rfl, rfl, rfl, rfl⟩
theorem ld_img {w : World} {b : Nat} {im : List Value} (h : w.heap[b]? = some (.cells im.toArray 33 (0, 0))) (hi : (Tryz.prog.info? 33).map (·.size) = some im.toArray.size) : (Instr.loadAt 33 (.pointer (some ⟨b, 0, none⟩))).run Tryz.prog w = .ok (.agg im.toArray) w := by
  have := run_loadAt_mid (P := Tryz.prog) w b 0 33 im _ (fun j v hv => by
    rw [cell_of_row _ _ _ _ _ _ h, Nat.zero_add]
    simpa using hv) Tryz.underlying33 rfl (by simpa using hi)
  exact this
theorem sl_rowU {w : World} {v : Value} {zs : List Nat} (h : Sl w v zs) : RowG 1 ubE w v zs := by
  obtain ⟨ao, cap, rfl, h1, h2, h3, h4, h5⟩ := h
  refine ⟨ao, cap, rfl, h1, h2, fun i hi => ?_⟩
  obtain ⟨b, o, rfl, hc⟩ := h5 i hi
  refine ⟨b, o, rfl, World.block_lt_of_cell? w _ hc, fun j hj => ?_⟩
  have h0 : j = 0 := by omega
  subst h0
  rw [show o + i * 1 + 0 = o + i by omega, hc]
  simp [ubE, List.getD_eq_getElem?_getD, List.getElem?_eq_getElem hi]
def im9 : List Value := [.int .u64 0, .slice none 0 0, .slice none 0 0, .slice none 0 0, .slice none 0 0, .slice none 0 0, .slice none 0 0, .slice none 0 0, .slice none 0 0, .int .i64 0, .int .i64 0, .slice none 0 0]
/-- a book, whatever it holds -/
def Bks (base kb : Nat) (w : World) : Prop := ∃ lv wv held E, Bk w base kb lv wv held E ∧ E.length ≤ 4000
/-- the book keeps one answer more -/
theorem bks_keep {wr w9 : World} {base kb : Nat} {ba : Option Addr} {n bc : Nat} {xs : List Nat} (h : Bks base kb wr) (hb : Below wr.heap.size wr w9) (hl : Own w9 wr.heap.size (.slice ba n bc) xs) (hxs : xs.length ≤ 140737488351232) (hsm : ∀ z ∈ xs, z < 256) (hbase : base ≤ wr.heap.size) :
    Calls Tryz.prog 21 #[.pointer (some ⟨kb, 0, none⟩), .slice ba n bc] w9 fun e w' => e = .returned (.tuple #[]) ∧ Bks base kb w' ∧ Ke base kb w9 w' := by
  obtain ⟨lv, wv, held, E, hk, hlen⟩ := h
  refine (bk_keep (bk_below hk hb) (own_low hl hbase) hxs hsm hlen (Nat.le_trans hbase hb.size) (fun k e hm => ?_)).mono ?_
  · have h1 := (hl.lt k e).1
    have h2 := blks_lt hk.ents k hm
    omega
  · rintro e w' ⟨rfl, lv', wv', held', E', h1, h2, _, h4⟩
    exact ⟨rfl, ⟨lv', wv', held', E', h1, h2⟩, h4⟩
set_option maxRecDepth 100000 in
set_option maxHeartbeats 16000000 in
theorem encodedX {w : World} {im : List Value} {I : Im} {base kb : Nat} (hI : ∀ W, Ke base kb w W → ImA W im I) (hT : ∀ W, Ke base kb w W → Tab W) (hc : cntI I < 4000000) (hk : Bks base kb w) (hbs : base ≤ w.heap.size) :
    Calls Tryz.prog 5 #[.agg im.toArray, .pointer (some ⟨kb, 0, none⟩)] w fun e w' => e = .returned (.bool true) ∧ Bks base kb w' ∧ Ke base kb w w' := by
  have hlen := (hI w (Ke.refl _ _ _)).len
  have HIn := Lib.hid (info_im hlen)
  have HS : Hid (szI I ≤ 20000000000) := szI_le hc
  have HC : Hid (cntI I < 4000000) := hc
  have HI := Lib.hid hI
  have HT := Lib.hid hT
  have HK := Lib.hid hk
  have HBs := Lib.hid hbs
  have HB1 : Hid (Below w.heap.size w (w.alloc (.cells im.toArray 33))) := (Below.refl _ _).alloc (Nat.le_refl _) _
  have HX1 : Hid ((w.alloc (.cells im.toArray 33)).heap[w.heap.size]? = some (.cells im.toArray 33 (0, 0))) := heap_alloc_new w _
  clear hI hT hc hk hbs hlen
  go_enter Tryz.func5, Tryz.ntmps5
  go_upto_region 1 with fail
  generalize (w.alloc (.cells im.toArray 33)) = W1 at *
  go_wp2_with (refine wpList_load_arr rfl 33 (.tmp 2) rfl (b := w.heap.size) (g := im.toArray) rfl HX1.out Tryz.underlying33 rfl HIn.out ?_)
  refine (twinX (HI.out W1 (ke_below HB1.out)) HC.out).mono ?_
  rintro e w2 ⟨om, rfl, htw, hb2⟩
  have HB2 : Hid (Below w.heap.size w w2) := HB1.out.trans (hb2.mono HB1.out.size)
  have HX2 : Hid (w2.heap[w.heap.size]? = some (.cells im.toArray 33 (0, 0))) := (hb2.block w.heap.size (Array.getElem?_eq_some_iff.1 HX1.out).1).trans HX1.out
  have HK2 : Hid (Bks base kb w2) := Lib.hid (by
    obtain ⟨lv, wv, held, E, h, hl⟩ := HK.out
    exact ⟨lv, wv, held, E, bk_below h HB2.out, hl⟩)
  have HO2 : Hid (∀ W, Ke base kb w2 W → ImA W om I) := Lib.hid (by
    obtain ⟨lv, wv, held, E, h, hl⟩ := HK2.out
    exact twin_ke htw h.blk)
  have hlo := (HO2.out w2 (Ke.refl _ _ _)).len
  have HIo := Lib.hid (info_im hlo)
  have HOo : Hid ((om.toArray.all fun x => x.oneCell') = true) := (HO2.out w2 (Ke.refl _ _ _)).one
  have HLo := Lib.hid hlo
  have hz3 : (w2.alloc (.cells im9.toArray 33)).heap[w2.heap.size]? = some (.cells im9.toArray 33 (0, 0)) := heap_alloc_new w2 _
  have HZ3 := Lib.hid hz3
  have HX5 : Hid (((w2.alloc (.cells im9.toArray 33)).setRow w2.heap.size om.toArray).heap[w2.heap.size]? = some (.cells om.toArray 33 (0, 0))) := row_set hz3
  have HB3 : Hid (Below w2.heap.size w2 ((w2.alloc (.cells im9.toArray 33)).setRow w2.heap.size om.toArray)) := Lib.hid (((Below.refl _ _).alloc (Nat.le_refl _) _).trans (below_setRow _ _ _ _ (Nat.le_refl _)))
  clear hb2 htw hlo hz3 HB1 HX1 HK
  go_upto_region 2 with (refine wpList_store_arr rfl 33 (.tmp 5) (.tmp 16) rfl (b := w2.heap.size) (Z := im9.toArray) (g := om.toArray) rfl rfl rfl HZ3.out HIo.out (by rw [List.size_toArray, List.size_toArray, HLo.out]; rfl) HOo.out ?_)
  show Code.wp _ _ _ _ ((w2.alloc (.cells im9.toArray 33)).setRow w2.heap.size om.toArray)
  generalize ((w2.alloc (.cells im9.toArray 33)).setRow w2.heap.size om.toArray) = w3 at *
  have HX3 : Hid (w3.heap[w.heap.size]? = some (.cells im.toArray 33 (0, 0))) := (HB3.out.block w.heap.size (Array.getElem?_eq_some_iff.1 HX2.out).1).trans HX2.out
  have HB3w : Hid (Below w.heap.size w w3) := HB2.out.trans (HB3.out.mono HB2.out.size)
  clear HZ3 HX2
  go_wp2_with (refine wpList_load_arr rfl 33 (.tmp 2) rfl (b := w.heap.size) (g := im.toArray) rfl HX3.out Tryz.underlying33 rfl HIn.out ?_)
  refine (rencA (HI.out w3 (ke_below HB3w.out)) HC.out).mono ?_
  rintro e w4 ⟨wa, wc, rfl, hw4, hb4⟩
  have HB4 : Hid (Below w3.heap.size w3 w4) := hb4
  have HW4 := Lib.hid hw4
  have HX4 : Hid (w4.heap[w.heap.size]? = some (.cells im.toArray 33 (0, 0))) := (hb4.block w.heap.size (Array.getElem?_eq_some_iff.1 HX3.out).1).trans HX3.out
  have HB4w : Hid (Below w.heap.size w w4) := HB3w.out.trans (hb4.mono HB3w.out.size)
  clear hb4 hw4
  obtain ⟨n, hn⟩ : ∃ n, (wsF I).length = n := ⟨_, rfl⟩
  have HN := Lib.hid hn
  obtain ⟨z1, hz1⟩ : ∃ z, (sizeF I).1 = z := ⟨_, rfl⟩
  obtain ⟨z2, hz2⟩ : ∃ z, (sizeF I).2 = z := ⟨_, rfl⟩
  have HE : Hid (∀ W, ImA W om I → Tab W → Calls Tryz.prog 11 #[.agg om.toArray] W fun e w' => ∃ a c, e = .returned (.tuple #[.slice a n c, .int .i64 z2]) ∧ Own w' W.heap.size (.slice a n c) (wsF I) ∧ Below W.heap.size W w') := fun W h1 h2 => by
    have := encA h1 h2 HS.out
    rwa [hn, hz2] at this
  have HZe : Hid (∀ W, ImA W om I → Calls Tryz.prog 18 #[.agg om.toArray] W fun e w' => e = .returned (.tuple #[.int .i64 z1, .int .i64 z2]) ∧ Below W.heap.size W w') := fun W h1 => by
    have := sizeX h1 HS.out
    rwa [hz1, hz2] at this
  have HRz : Hid (Calls Tryz.prog 17 #[.agg im.toArray] w4 fun e w' => e = .returned (.tuple #[.int .i64 z1, .int .i64 z2]) ∧ Below w4.heap.size w4 w') := Lib.hid (by
    have := rsizeX (HI.out w4 (ke_below HB4w.out)) HC.out
    rwa [hz1, hz2] at this)
  rw [hn] at HW4 ⊢
  rw [hz2]
  clear hn hz1 hz2
  go_wp2_with (refine wpList_load_arr rfl 33 (.tmp 2) rfl (b := w.heap.size) (g := im.toArray) rfl HX4.out Tryz.underlying33 rfl HIn.out ?_)
  refine HRz.out.mono ?_
  rintro e w5 ⟨rfl, hb5⟩
  have HB25 : Hid (Below w2.heap.size w2 w5) := HB3.out.trans ((HB4.out.trans (hb5.mono HB4.out.size)).mono HB3.out.size)
  have HB5w : Hid (Below w.heap.size w w5) := HB4w.out.trans (hb5.mono HB4w.out.size)
  have HK5 : Hid (Bks base kb w5) := Lib.hid (by
    obtain ⟨lv, wv, held, E, h, hl⟩ := HK2.out
    exact ⟨lv, wv, held, E, bk_below h HB25.out, hl⟩)
  have HX5c : Hid (w5.heap[w2.heap.size]? = some (.cells om.toArray 33 (0, 0))) := Lib.hid (by
    have h1 := (HB4.out.block w2.heap.size (Array.getElem?_eq_some_iff.1 HX5.out).1).trans HX5.out
    exact (hb5.block w2.heap.size (Array.getElem?_eq_some_iff.1 h1).1).trans h1)
  have HX1c : Hid (w5.heap[w.heap.size]? = some (.cells im.toArray 33 (0, 0))) := (hb5.block w.heap.size (Array.getElem?_eq_some_iff.1 HX4.out).1).trans HX4.out
  have HW5 := Lib.hid (HW4.out.below hb5)
  have FI : Hid (∀ W, Ke base kb w5 W → ImA W im I) := fun W hW => HI.out W ((ke_below HB5w.out).trans hW)
  have FT : Hid (∀ W, Ke base kb w5 W → Tab W) := fun W hW => HT.out W ((ke_below HB5w.out).trans hW)
  have FO : Hid (∀ W, Ke base kb w5 W → ImA W om I) := fun W hW => HO2.out W ((ke_below HB25.out).trans hW)
  have F1 : Hid (∀ W, Ke base kb w5 W → W.heap[w.heap.size]? = some (.cells im.toArray 33 (0, 0))) := fun W hW => by
    obtain ⟨_, _, _, _, h, _⟩ := HK5.out
    exact ke_blk hW h.blk HX1c.out (by decide) (by decide)
  have F5 : Hid (∀ W, Ke base kb w5 W → W.heap[w2.heap.size]? = some (.cells om.toArray 33 (0, 0))) := fun W hW => by
    obtain ⟨_, _, _, _, h, _⟩ := HK5.out
    exact ke_blk hW h.blk HX5c.out (by decide) (by decide)
  have FW : Hid (∀ W, Ke base kb w5 W → RowG 1 ubE W (.slice wa n wc) (wsF I)) := fun W hW => by
    obtain ⟨_, _, _, _, h, _⟩ := HK5.out
    exact sl_rowU ((HW5.out.ke h.blk hW).sl (wsF_small HW5.out (Dc.sm_enc I)))
  have FKe : Hid (Ke base kb w w5) := ke_below HB5w.out
  have HBs5 : Hid (base ≤ w5.heap.size) := Nat.le_trans HBs.out HB5w.out.size
  clear hb5 HB25 HB5w HX5c HX1c HW5 HW4 HX4 HX3 HX5 HB3 HB4 HB4w HB3w HB2 HK2 HO2 HI HT HRz HBs
  generalize w2.heap.size = b5 at *
  generalize w.heap.size = b2 at *
  have HA : Hid (Ke base kb w5 w5) := Ke.refl _ _ _
  have HWl : Hid ((wsF I).length ≤ 140737488351232) := show _ ≤ _ from Nat.le_trans wsF_le (by decide)
  have HWs : Hid (∀ z ∈ wsF I, z < 256) := by
    unfold wsF
    split
    · exact Dc.sm_enc I
    · intro z hz; cases hz
  go_wp2_with fail
  go_loopw [10] (fun jv wr => ∃ j : Nat, j ≤ 2 ∧ jv = .int .i64 (j : Int) ∧ Hid (Ke base kb w5 wr) ∧ Hid (Bks base kb wr) ∧ Hid (base ≤ wr.heap.size)) (fun jv _ => 2 - (intOf jv).toNat)
  case atStart => exact ⟨0, by omega, rfl, HA, HK5, HBs5⟩
  case round =>
    clear HA HK5 HBs5
    obtain ⟨j, hj, rfl, HKr, HBr, HSr⟩ := hrel
    by_cases hj2 : j < 2
    · have jj : (j : Int) < 2 := by omega
      have hw1 : IntKind.i64.wrap ((j : Int) + 1) = ((j + 1 : Nat) : Int) := by rw [IntKind.wrap_i64]; omega
      have H5 := Lib.hid (F5.out _ HKr.out)
      obtain ⟨wA, hwA⟩ : ∃ x, x = wr := ⟨_, rfl⟩
      subst hwA
      go_wp2_with (refine wpList_load_arr rfl 33 (.tmp 5) rfl (b := b5) (g := om.toArray) rfl H5.out Tryz.underlying33 rfl HIo.out ?_)
      refine (HE.out _ (FO.out _ HKr.out) (FT.out _ HKr.out)).mono ?_
      rintro e w6 ⟨ba, bc, rfl, ho6, hb6⟩
      have HO6 := Lib.hid ho6
      have HB6 : Hid (Below wA.heap.size wA w6) := hb6
      have HK6 : Hid (Ke base kb w5 w6) := HKr.out.trans (ke_below hb6)
      have H56 := Lib.hid (F5.out _ HK6.out)
      clear ho6 hb6 H5
      go_wp2_with (refine wpList_load_arr rfl 33 (.tmp 5) rfl (b := b5) (g := om.toArray) rfl H56.out Tryz.underlying33 rfl HIo.out ?_)
      refine (HZe.out _ (FO.out _ HK6.out)).mono ?_
      rintro e w7 ⟨rfl, hb7⟩
      have HO7 := Lib.hid (HO6.out.below hb7)
      have HB7 : Hid (Below wA.heap.size wA w7) := HB6.out.trans (hb7.mono HB6.out.size)
      have HK7 : Hid (Ke base kb w5 w7) := HK6.out.trans (ke_below hb7)
      clear hb7 HO6 HB6 HK6 H56
      have HSm := Lib.hid (sameBytesX (sl_rowU (HO7.out.sl HWs.out)) (FW.out _ HK7.out))
      go_wp2_with fail
      refine HSm.out.mono ?_
      rintro e w8 ⟨r, rfl, hr, hb8⟩
      obtain rfl : r = true := hr.2 (by first | trivial | rfl)
      have HO8 := Lib.hid (HO7.out.below hb8)
      have HB8 : Hid (Below wA.heap.size wA w8) := HB7.out.trans (hb8.mono HB7.out.size)
      have HK8 : Hid (Ke base kb w5 w8) := HK7.out.trans (ke_below hb8)
      clear hb8 HO7 HB7 HK7 HSm hr
      have l5 := Lib.hid (ld_img (F5.out _ HK8.out) HIo.out)
      have l2 := Lib.hid (ld_img (F1.out _ HK8.out) HIn.out)
      go_wp2_with (first
        | (refine wpList_load_tyG (by kernel_rfl) 33 (.tmp 5) rfl rfl l5.out ?_)
        | (refine wpList_load_tyG (by kernel_rfl) 33 (.tmp 2) rfl rfl l2.out ?_))
      refine (sameX (FO.out _ HK8.out) (FI.out _ HK8.out)).mono ?_
      rintro e w9 ⟨r, rfl, hr, hb9⟩
      obtain rfl : r = true := hr.2 (alike_me I)
      have HO9 := Lib.hid (HO8.out.below hb9)
      have HB9 : Hid (Below wA.heap.size wA w9) := HB8.out.trans (hb9.mono HB8.out.size)
      have HK9 : Hid (Ke base kb w5 w9) := HK8.out.trans (ke_below hb9)
      clear hb9 HO8 HB8 HK8 l5 l2 hr
      go_wp2_with fail
      refine (bks_keep HBr.out HB9.out HO9.out HWl.out HWs.out HSr.out).mono ?_
      rintro e w10 ⟨rfl, hk10, hke⟩
      have HK10 : Hid (Ke base kb w5 w10) := HK9.out.trans hke
      have HBk10 := Lib.hid hk10
      have HS10 : Hid (base ≤ w10.heap.size) := Nat.le_trans HSr.out (Nat.le_trans HB9.out.size hke.size)
      clear hk10 hke HO9 HB9 HK9
      go_wp2_with fail
      go_roundw
      case rel => exact ⟨j + 1, by omega, rfl, HK10, HBk10, HS10⟩
      case measure => simp [intOf]; omega
    · obtain rfl : j = 2 := by omega
      go_wp2_with fail
      go_ret
      exact ⟨rfl, HBr.out, FKe.out.trans HKr.out⟩
end Go.Proofs.YtmfkggngjeolcaaGreatDoor
