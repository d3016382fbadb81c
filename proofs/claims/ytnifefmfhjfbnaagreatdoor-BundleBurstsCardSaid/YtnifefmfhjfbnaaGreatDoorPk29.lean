import Derived.Test.YtnifefmfhjfbnaaGreatDoorPk22
import Derived.Test.YtnifefmfhjfbnaaGreatDoorPk28
import Derived.Test.YtnifefmfhjfbnaaGreatDoorPk23
import Derived.BigQuiet
import Derived.Test.YtnifefmfhjfbnaaGreatDoorPk27
/- Bundle: tables are taken. Own work. -/
namespace Go.Proofs.YtnifefmfhjfbnaaGreatDoor
open Go.RowKit Bn Dc
set_option linter.unusedVariables false
set_option linter.unusedSimpArgs false
theorem tb_ok : EncOk 512 tbE := ⟨fun f => by simp [tbE, tabV_size], fun f u hu => by
 have h9 := tabV_one f
 rw [Array.all_eq_true_iff_forall_mem] at h9
 exact h9 u (by simpa [tbE] using hu)⟩
theorem info_tab : (Tryz.prog.info? 77).map (fun i => (i.zero, i.size, i.bytes)) = some (some (.agg (tabV fun _ => 0)), 512, 4096) := by kernel_rfl
theorem wpList_tsl {ops : Array Oper} {rest : List Oper} {o : Oper} {a : Act} {w : World} {Q : Exit → Act → World → Prop} (hgd : o.guard = none) (parts : Array (Nat × Operand)) (ho : o.op = .buildSlice 35 1 parts) (vals : Array (Nat × Value)) (hv : (parts.map fun (i, x) => (i, a.eval x)) = vals) {q : Array Value} (hq : q.size = 512) {hvq : vals = #[(0, .agg q)]} (h : wpList Tryz.prog ops Q rest (a.put o.dst (.slice (some ⟨w.heap.size, 0, none⟩) 1 1)) (w.alloc (.cells q 77))) : wpList Tryz.prog ops Q (o :: rest) a w :=
 wpList_plain hgd fun K hK => by
  unfold Oper.wp execOp
  simp only [ho, Sem.run_bind, Sem.run_pure, Result.andThen_ok, hv, hvq, run_slice1 w 35 77 512 4096 _ Tryz.underlying35 info_tab (by decide) (by decide) (.agg q) hq]
  exact hK _ _ h
namespace Dc
def tabD (q : Pt) (s : D) : (Nat → Nat) × D := (if (bytesD q 4096 s).1.length = 4096 then numT (bytesD q 4096 s).1 else fun _ => 0, (bytesD q 4096 s).2)
end Dc
section
variable {B kb : Nat} {raw : Value} {im en : List Value} {q : Pt} {p g : Nat} {s : D} {w : World}
set_option maxRecDepth 100000 in
set_option maxHeartbeats 4000000 in
theorem listTbX {α : Type} {R : World → (Nat → Nat) → α → Prop} (hR : ∀ W W' x y, R W x y → Rz 77 W W' → R W' x y) (one : D → α × D) (hone : ∀ W t, Dt B kb raw im en q p g W t W → Fd B w W → Calls Tryz.prog 108 #[.pointer (some ⟨kb, 0, none⟩)] W fun e w' => ∃ x, e = .returned (.agg (tbE x).toArray) ∧ R w' x (one t).1 ∧ Dt B kb raw im en q p g W (one t).2 w') (h : Dt B kb raw im en q p g w s w) {n : Nat} (hn : n ≤ 1048576) :
  Calls Tryz.prog 106 #[.pointer (some ⟨kb, 0, none⟩), .int .i64 (n : Int), (.func (.func 108) #[.pointer (some ⟨kb, 0, none⟩)] #[])] w fun e w' => ∃ v xs, e = .returned v ∧ OwnG 77 512 tbE w' w.heap.size v xs ∧ T2 (R w') xs (listD one n s).1 ∧ Dt B kb raw im en q p g w (listD one n s).2 w' := by
 have H0 : Hid (Lst 77 512 tbE R one B kb raw im en q p g w s (.slice none 0 0) 0 w) := ⟨⟨[], OwnG.nil _ _ _ _ _, rfl, .nil⟩, h⟩
 have HOne : Hid (∀ W t, Dt B kb raw im en q p g W t W → Fd B w W → Calls Tryz.prog 108 #[.pointer (some ⟨kb, 0, none⟩)] W fun e w' => ∃ x, e = .returned (.agg (tbE x).toArray) ∧ R w' x (one t).1 ∧ Dt B kb raw im en q p g W (one t).2 w') := hone
 have HR : Hid (∀ W W' x y, R W x y → Rz 77 W W' → R W' x y) := hR
 have HGo : Hid (∀ W s', Dt B kb raw im en q p g w s' W → Calls Tryz.prog 121 #[.pointer (some ⟨kb, 0, none⟩)] W fun e w' => e = .returned (.bool (goD s')) ∧ w' = W) := fun W s' hW => dgoesX hW
 have HLt : Hid (kb < w.heap.size) := h.lt
 clear hone hR h
 go_enter Tryz.func106, Tryz.ntmps106
 go_wp2_with fail
 go_loopw [7] (fun v wr => ∃ (i : Nat) (ao : Option Addr) (cap : Nat), i ≤ n ∧ v = .slice ao i cap ∧ Hid (Lst 77 512 tbE R one B kb raw im en q p g w s (.slice ao i cap) i wr)) (fun v _ => n - lenOf v)
 case atStart => exact ⟨0, none, 0, Nat.zero_le _, rfl, H0⟩
 case round =>
  clear H0
  obtain ⟨i, ao, cap, hi, rfl, HI⟩ := hrel
  by_cases hin : i < n
  ·have ji : (i : Int) < (n : Int) := by omega
   have HG1 := Lib.hid (HGo.out _ _ HI.out.dt)
   by_cases hg : goD (listD one i s).2 = true
   ·rw [hg] at HG1
    have HO1 := Lib.hid (HOne.out _ _ HI.out.dt.here HI.out.dt.fr)
    clear HOne HGo
    go_wp2_with fail
    refine HG1.out.mono ?_
    rintro e w1 ⟨rfl, h1⟩
    subst h1
    clear HG1
    go_wp2_with fail
    refine HO1.out.mono ?_
    rintro e w2 ⟨x, rfl, hx, h2⟩
    obtain ⟨xs, hxo, hxl, hxt⟩ := HI.out.ex
    have hf2 := h2.fr
    have HO2 : Hid (OwnG 77 512 tbE w2 w.heap.size (.slice ao i cap) xs) := hxo.fd hf2 (by decide) (by decide)
    have HT2 : Hid (T2 (R w2) xs (listD one i s).1) := hxt.imp (fun x y h => HR.out _ _ _ _ h (hf2.rz _))
    have HX2 : Hid (R w2 x (one (listD one i s).2).1) := hx
    have HD2 : Hid (Dt B kb raw im en q p g w (one (listD one i s).2).2 w2) := h2.since HI.out.dt.fr
    have HN : Hid (listD one (i + 1) s = ((listD one i s).1 ++ [(one (listD one i s).2).1], (one (listD one i s).2).2)) := listD_next one i s hg
    have HXl := Lib.hid hxl
    clear hx h2 hf2 hxo hxl hxt HO1 HI
    obtain ⟨Tq, hTq⟩ : ∃ T, (tbE x).toArray = T := ⟨_, rfl⟩
    have HTs : Hid (Tq.size = 512) := by show Tq.size = 512; rw [← hTq]; simp [tbE, tabV_size]
    have HTq : Hid (Tq = (tbE x).toArray) := hTq.symm
    rw [hTq]
    clear hTq
    obtain ⟨W, hW⟩ : ∃ W, W = w2.alloc (.cells Tq 77) := ⟨_, rfl⟩
    have hlow : Below w2.heap.size w2 W := by rw [hW]; exact (Below.refl _ _).alloc (Nat.le_refl _) _
    have HG3 : Hid (W.heap[w2.heap.size]? = some (.cells (tbE x).toArray 77 (0, 0))) := by rw [hW, ← HTq.out]; exact heap_alloc_new w2 _
    have HO3 : Hid (OwnG 77 512 tbE W w.heap.size (.slice ao i cap) xs) := HO2.out.below hlow
    have HT3 : Hid (T2 (R W) xs (listD one i s).1) := HT2.out.imp (fun x y h => HR.out _ _ _ _ h (Rz.of_below hlow))
    have HX3 : Hid (R W x (one (listD one i s).2).1) := HR.out _ _ _ _ HX2.out (Rz.of_below hlow)
    have HD3 : Hid (Dt B kb raw im en q p g w (one (listD one i s).2).2 W) := HD2.out.below hlow
    have HS3 : Hid (w.heap.size ≤ W.heap.size) := Nat.le_trans HD2.out.fr.size hlow.size
    subst hW
    clear hlow HO2 HT2 HX2 HD2 HTq
    go_wp2_with (first | (refine wpList_tsl rfl #[(0, .tmp 18)] rfl #[(0, .agg Tq)] (by simp [Act.eval, Act.put]) HTs.out (hvq := rfl) ?_) | (at_builtin; refine wpList_appG (enc := tbE) (x := x) (xs := xs) rfl 35 77 (.tmp 16) (.tmp 19) rfl 512 4096 _ Tryz.underlying35 info_tab (by decide) (tabV_size _) (by decide) tb_ok (by rfl) HO3.out (by rfl) HG3.out (by rw [HXl.out]; omega) HS3.out ?_))
    intro va vc w4 HO4 HG4
    have HI4 : Hid (Lst 77 512 tbE R one B kb raw im en q p g w s (.slice va (i + 1) vc) (i + 1) w4) := by
     obtain ⟨_, _, _, _, _, hrow⟩ := HO3.out.form
     have hg9 := HG4.out
     refine ⟨⟨xs ++ [x], ?_, by rw [List.length_append, HXl.out]; rfl, ?_⟩, ?_⟩
     ·have := HO4.out
      rw [HXl.out] at this
      exact this
     ·rw [HN.out]
      exact (HT3.out.snoc HX3.out).imp (fun x y h => HR.out _ _ _ _ h (Rz.grown hg9 (fun k e => (hrow k e).2.2)))
     ·rw [HN.out]
      exact HD3.out.grown hg9 (fun k e => ⟨(hrow k e).1, (hrow k e).2.2⟩) (by decide) (by decide) (by decide)
    rw [HXl.out]
    clear HO4 HG4 HO3 HT3 HX3 HD3 HG3 HN HXl
    go_wp2_with fail
    go_roundw
    case rel => exact ⟨i + 1, va, vc, by omega, rfl, HI4⟩
    case measure => simp [lenOf]; omega
   ·rw [show goD (listD one i s).2 = false by simpa using hg] at HG1
    go_wp2_with fail
    refine HG1.out.mono ?_
    rintro e w1 ⟨rfl, h1⟩
    subst h1
    clear HG1
    go_wp2_with fail
    go_ret
    rw [listD_stop one i s hg n hi]
    obtain ⟨xs, hxo, hxl, hxt⟩ := HI.out.ex
    first | exact ⟨_, xs, rfl, hxo, hxt, HI.out.dt⟩ | exact ⟨_, rfl, xs, hxo, hxt, HI.out.dt⟩
  ·obtain rfl : i = n := by omega
   have ji : ¬ (i : Int) < (i : Int) := by omega
   go_wp2_with fail
   go_ret
   obtain ⟨xs, hxo, hxl, hxt⟩ := HI.out.ex
   first | exact ⟨_, xs, rfl, hxo, hxt, HI.out.dt⟩ | exact ⟨_, rfl, xs, hxo, hxt, HI.out.dt⟩
end
section
variable {B kb : Nat} {raw : Value} {im en : List Value} {q : Pt} {p g : Nat} {w0 : World} {s : D} {w w' : World}
theorem Dt.rowSet {t : TypeId} {n : Nat} (h : Db t n B kb raw im en q p g w0 s w) (c : Array Value) : Dt B kb raw im en q p g w0 s (w.setRow n c) := by
 have hb : ∀ k, k ≠ n → (w.setRow n c).heap[k]? = w.heap[k]? := fun k hk => by
  simp [World.setRow, Array.getElem?_modify, hk.symm]
 have hk : Keeps (fun k => k = n) w (w.setRow n c) := ⟨rfl, rfl, rfl, by simp [World.setRow], fun k _ e => hb k e⟩
 have nb : n ≠ kb := fun e => h.h1 (tag_same h.tg ⟨_, e ▸ h.dt.blk⟩)
 have np : p ≠ n := fun e => h.h2 (tag_same h.tg ⟨_, e ▸ h.dt.rd.1⟩)
 have ng : g ≠ n := fun e => h.h3 (tag_same h.tg ⟨_, e ▸ h.dt.rd.2.1⟩)
 refine ⟨(hk.block kb h.dt.lt (fun e => nb e.symm)).trans h.dt.blk, h.dt.him, h.dt.hen, h.dt.hpt, h.dt.hfi, h.dt.hlen, h.dt.rd.keeps hk np ng, h.dt.hB, ?_⟩
 have hf := h.dt.fr
 have hn := h.hn
 exact ⟨hk.os.trans hf.os, hk.tape.trans hf.tape, hk.output.trans hf.output, Nat.le_trans hf.size hk.size, fun j hj hq => (hk.block j (Nat.lt_of_lt_of_le hj hf.size) (fun e => by omega)).trans (hf.block j hj hq)⟩
theorem preadX {v : Value} {zs : List Nat} (hs : Sl w v zs) : Calls Tryz.prog 128 #[v] w fun e w' => ∃ b, e = .returned (.tuple #[.agg (tabV (if zs.length = 4096 then numT zs else fun _ => 0)), .bool b]) ∧ Below w.heap.size w w' := by
 by_cases hl : zs.length = 4096
 ·rw [if_pos hl]
  exact (pread_yes hs hl).mono (fun e w' h => ⟨_, h⟩)
 ·rw [if_neg hl]
  exact (pread_no hs hl).mono (fun e w' h => ⟨_, h⟩)
set_option maxRecDepth 100000 in
set_option maxHeartbeats 4000000 in
theorem dtableX (h : Dt B kb raw im en q p g w0 s w) : Calls Tryz.prog 108 #[.pointer (some ⟨kb, 0, none⟩)] w fun e w' => ∃ x, e = .returned (.agg (tbE x).toArray) ∧ x = (tabD q s).1 ∧ Dt B kb raw im en q p g w0 (tabD q s).2 w' := by
 obtain ⟨h1, hf1, hb1, hl1⟩ := h.boxed (.cells (tabV fun _ => 0) 77)
 have hz := tab_zero.1
 have HF := Lib.hid hf1
 have HS : Hid (w0.heap.size ≤ w.heap.size) := h.fr.size
 have HSz : Hid (∀ W t, Dt B kb raw im en q p g (w.alloc (.cells (tabV fun _ => 0) 77)) t W → w.heap.size < W.heap.size) := fun W t hW => by
  have h9 := hW.fr.size
  simp at h9
  omega
 have HB : Hid (∀ W t, Dt B kb raw im en q p g (w.alloc (.cells (tabV fun _ => 0) 77)) t W → TabAt W w.heap.size (fun _ => 0)) := fun W t hW => hW.box hb1 (by decide) (by decide)
 have c59 := h1.c59
 have K0 := Lib.hid (tBytesX h1 (n := 4096) (by decide))
 have K1 : Hid (∀ W v t, Bv W v (bytesD q 4096 s).1 → Dt B kb raw im en q p g (w.alloc (.cells (tabV fun _ => 0) 77)) t W → Calls Tryz.prog 128 #[v] W fun e w' => ∃ b, e = .returned (.tuple #[.agg (tabV (tabD q s).1), .bool b]) ∧ Dt B kb raw im en q p g (w.alloc (.cells (tabV fun _ => 0) 77)) t w') := fun W v t hv hd => (preadX hv.sl).mono (fun e w' ⟨b, he, hb⟩ => ⟨b, he, hd.below hb⟩)
 have HN : Hid ((tabD q s).2 = (bytesD q 4096 s).2) := rfl
 clear h h1 hf1 hb1 hl1
 obtain ⟨F, hF⟩ : ∃ F, (tabD q s).1 = F := ⟨_, rfl⟩
 rw [HN.out, hF]
 rw [hF] at K1
 clear hF HN
 generalize (bytesD q 4096 s).1 = bs at *
 generalize (bytesD q 4096 s).2 = t at *
 go_enter Tryz.func108, Tryz.ntmps108
 go_wp2_with fail
 refine K0.out.mono ?_
 rintro e w1 ⟨v, rfl, hv, h1⟩
 have HC := Lib.hid (K1.out _ _ _ hv h1)
 clear hv h1 K0 K1 c59
 go_wp2_with fail
 refine HC.out.mono ?_
 rintro e w2 ⟨b, rfl, h2⟩
 have hlt := HSz.out _ _ h2
 have hd3 := (h2.since HF.out).below ((Below.refl _ _).alloc (Nat.le_refl _) (.cells (tabV fun _ => 0) 77))
 have HQ0 : Hid (TabAt (w2.alloc (.cells (tabV fun _ => 0) 77)) w2.heap.size (fun _ => 0)) := TabAt.new _ _
 have HP3 : Hid (TabAt ((w2.alloc (.cells (tabV fun _ => 0) 77)).setRow w2.heap.size (tabV F)) w.heap.size (fun _ => 0)) := ((HB.out _ _ h2).alloc _).row_other (by omega) _
 have HQ3 : Hid (TabAt ((w2.alloc (.cells (tabV fun _ => 0) 77)).setRow w2.heap.size (tabV F)) w2.heap.size F) := HQ0.out.setRow F
 have HD3 : Hid (Db 77 w.heap.size B kb raw im en q p g w0 t ((w2.alloc (.cells (tabV fun _ => 0) 77)).setRow w2.heap.size (tabV F))) := ⟨Dt.rowSet (t := 77) ⟨hd3, ⟨_, HQ0.out⟩, Nat.le_trans HS.out (Nat.le_of_lt hlt), by decide, by decide, by decide⟩ _, ⟨_, HP3.out⟩, HS.out, by decide, by decide, by decide⟩
 clear h2 hd3 HC HB HF HS HSz
 go_wp2_with (first | (refine wpList_load_tab (b := w2.heap.size) (f := F) rfl (.tmp 3) rfl rfl HQ3.out ?_) | (refine wpList_store_tab (b := w2.heap.size) (g := F) rfl (.tmp 3) (.tmp 12) rfl rfl rfl rfl HQ0.out ?_) | (refine wpList_store_tab (b := w.heap.size) (g := F) rfl (.tmp 2) (.tmp 14) rfl rfl rfl rfl HP3.out ?_))
 exact bodyPost_ret (v := .agg (tabV F)) (ret_tab rfl (by rfl) (HP3.out.setRow F)) rfl ⟨F, rfl, rfl, Dt.rowSet HD3.out _⟩
end
end Go.Proofs.YtnifefmfhjfbnaaGreatDoor
/- Bundle: sections are taken (written by parts/gen_dcsec.py). Own work. -/
namespace Go.Proofs.YtnifefmfhjfbnaaGreatDoor
open Go.RowKit Bn Dc
set_option linter.unusedVariables false
set_option linter.unusedSimpArgs false
section
variable {B kb : Nat} {raw : Value} {im en : List Value} {q : Pt} {p g : Nat} {w0 : World} {s : D} {w w' : World}
theorem Dt.cIm (h : Dt B kb raw im en q p g w0 s w) {i : Nat} (hi : i < 12) : ∃ u, w.cell? ⟨kb, 1 + i, none⟩ = some u := by
 refine ⟨im[i]'(by rw [h.him]; exact hi), (h.cell _).trans ((rdC_im h.him hi).trans ?_)⟩
 rw [List.getElem?_eq_getElem (by rw [h.him]; exact hi)]
theorem Dt.fdSet (h : Dt B kb raw im en q p g w0 s w) (i : Nat) (u : Value) : Fd B w (w.setCell ⟨kb, i, none⟩ u) := Keeps.mono (Keeps.setCell w kb i u) (fun k _ e => by subst e; exact ⟨h.hB.1, .inl ⟨_, h.blk⟩⟩)
/-- a section of one row is taken -/
def SecP (t : TypeId) {β : Type} (k : Nat) (enc : β → List Value) (i : Nat) (B kb : Nat) (raw : Value) (im en : List Value) (q : Pt) (p g : Nat) (w0 : World) (xs : List β) (s' : D) (w' : World) : Prop := ∃ v, OwnG t k enc w' 0 v xs ∧ Dt B kb raw (im.set i v) en q p g w0 s' w'
set_option maxRecDepth 100000 in
set_option maxHeartbeats 4000000 in
theorem rdSubsX (h : Dt B kb raw im en q p g w0 s w) : Calls Tryz.prog 48 #[.pointer (some ⟨kb, 0, none⟩)] w fun e w' => e = .returned (.tuple #[]) ∧ SecP 71 6 tnE 3 B kb raw im en q p g w0 (listD (tenD q) (manyD q s).1 (manyD q s).2).1 (listD (tenD q) (manyD q s).1 (manyD q s).2).2 w' := by
 have hm := many_le h
 have HC := Lib.hid (dmanyX h)
 generalize (manyD q s).1 = n at *
 generalize (manyD q s).2 = t at *
 have HL : Hid (∀ W, Dt B kb raw im en q p g w0 t W → Calls Tryz.prog 91 #[.pointer (some ⟨kb, 0, none⟩), .int .i64 (n : Int), (.func (.func 93) #[.pointer (some ⟨kb, 0, none⟩)] #[])] W fun e w' => ∃ x, e = .returned (slE1 x) ∧ OwnG 71 6 tnE w' 0 (slE1 x) (listD (tenD q) n t).1 ∧ Dt B kb raw im en q p g w0 (listD (tenD q) n t).2 w') := fun W hW => (listTnX (R := fun _ x y => x = y) (fun _ _ _ _ h _ => h) (tenD q) (fun W t hW _ => (tenX hW).mono (fun e w' h => ⟨_, h.1, rfl, h.2⟩)) hW.here (by omega)).mono (fun e w' ⟨v, xs, he, ho, ht, hd⟩ => by
  obtain ⟨a, c, hv, _⟩ := ho.form
  exact ⟨⟨a, xs.length, c⟩, by rw [he, hv]; rfl, by rw [← slE1_of hv, ← ht.eq]; exact ho.zero, hd.since hW.fr⟩)
 clear h
 generalize (listD (tenD q) n t).1 = ys at *
 generalize (listD (tenD q) n t).2 = t2 at *
 go_enter Tryz.func48, Tryz.ntmps48
 go_wp2_with fail
 refine HC.out.mono ?_
 rintro e w1 ⟨rfl, h1⟩
 have HL1 := Lib.hid (HL.out _ h1)
 clear h1 HC HL
 go_wp2_with fail
 refine HL1.out.mono ?_
 rintro e w2 ⟨⟨xa, xn, xc⟩, rfl, ho, h2⟩
 obtain ⟨u, hu⟩ := h2.cIm (i := 3) (by decide)
 have fu := h2.free 4
 have H3 : Hid (SecP 71 6 tnE 3 B kb raw im en q p g w0 ys t2 (w2.setCell ⟨kb, 1 + 3, none⟩ (slE1 ⟨xa, xn, xc⟩))) := ⟨_, ho.fd (h2.fdSet _ _) (by decide) (by decide), h2.setIm (by decide) _⟩
 simp only [slE1, show (1 + 3 : Nat) = 4 from rfl] at H3 hu ⊢
 clear ho h2 HL1
 go_wp2_with fail
 go_end0
 exact ⟨rfl, H3.out⟩
set_option maxRecDepth 100000 in
set_option maxHeartbeats 4000000 in
theorem rdRegsX (h : Dt B kb raw im en q p g w0 s w) : Calls Tryz.prog 50 #[.pointer (some ⟨kb, 0, none⟩)] w fun e w' => e = .returned (.tuple #[]) ∧ SecP 75 4 gdE 5 B kb raw im en q p g w0 (listD (gdD q) (manyD q s).1 (manyD q s).2).1 (listD (gdD q) (manyD q s).1 (manyD q s).2).2 w' := by
 have hm := many_le h
 have HC := Lib.hid (dmanyX h)
 generalize (manyD q s).1 = n at *
 generalize (manyD q s).2 = t at *
 have HL : Hid (∀ W, Dt B kb raw im en q p g w0 t W → Calls Tryz.prog 96 #[.pointer (some ⟨kb, 0, none⟩), .int .i64 (n : Int), (.func (.func 97) #[.pointer (some ⟨kb, 0, none⟩)] #[])] W fun e w' => ∃ x, e = .returned (slE1 x) ∧ OwnG 75 4 gdE w' 0 (slE1 x) (listD (gdD q) n t).1 ∧ Dt B kb raw im en q p g w0 (listD (gdD q) n t).2 w') := fun W hW => (listGdX (R := fun _ x y => x = y) (fun _ _ _ _ h _ => h) (gdD q) (fun W t hW _ => (gdX hW).mono (fun e w' h => ⟨_, h.1, rfl, h.2⟩)) hW.here (by omega)).mono (fun e w' ⟨v, xs, he, ho, ht, hd⟩ => by
  obtain ⟨a, c, hv, _⟩ := ho.form
  exact ⟨⟨a, xs.length, c⟩, by rw [he, hv]; rfl, by rw [← slE1_of hv, ← ht.eq]; exact ho.zero, hd.since hW.fr⟩)
 clear h
 generalize (listD (gdD q) n t).1 = ys at *
 generalize (listD (gdD q) n t).2 = t2 at *
 go_enter Tryz.func50, Tryz.ntmps50
 go_wp2_with fail
 refine HC.out.mono ?_
 rintro e w1 ⟨rfl, h1⟩
 have HL1 := Lib.hid (HL.out _ h1)
 clear h1 HC HL
 go_wp2_with fail
 refine HL1.out.mono ?_
 rintro e w2 ⟨⟨xa, xn, xc⟩, rfl, ho, h2⟩
 obtain ⟨u, hu⟩ := h2.cIm (i := 5) (by decide)
 have fu := h2.free 6
 have H3 : Hid (SecP 75 4 gdE 5 B kb raw im en q p g w0 ys t2 (w2.setCell ⟨kb, 1 + 5, none⟩ (slE1 ⟨xa, xn, xc⟩))) := ⟨_, ho.fd (h2.fdSet _ _) (by decide) (by decide), h2.setIm (by decide) _⟩
 simp only [slE1, show (1 + 5 : Nat) = 6 from rfl] at H3 hu ⊢
 clear ho h2 HL1
 go_wp2_with fail
 go_end0
 exact ⟨rfl, H3.out⟩
set_option maxRecDepth 100000 in
set_option maxHeartbeats 4000000 in
theorem rdChsX (h : Dt B kb raw im en q p g w0 s w) : Calls Tryz.prog 51 #[.pointer (some ⟨kb, 0, none⟩)] w fun e w' => e = .returned (.tuple #[]) ∧ SecP 81 5 lkE 6 B kb raw im en q p g w0 (listD (chD q) (manyD q s).1 (manyD q s).2).1 (listD (chD q) (manyD q s).1 (manyD q s).2).2 w' := by
 have hm := many_le h
 have HC := Lib.hid (dmanyX h)
 generalize (manyD q s).1 = n at *
 generalize (manyD q s).2 = t at *
 have HL : Hid (∀ W, Dt B kb raw im en q p g w0 t W → Calls Tryz.prog 98 #[.pointer (some ⟨kb, 0, none⟩), .int .i64 (n : Int), (.func (.func 99) #[.pointer (some ⟨kb, 0, none⟩)] #[])] W fun e w' => ∃ x, e = .returned (slE1 x) ∧ OwnG 81 5 lkE w' 0 (slE1 x) (listD (chD q) n t).1 ∧ Dt B kb raw im en q p g w0 (listD (chD q) n t).2 w') := fun W hW => (listChX (R := fun _ x y => x = y) (fun _ _ _ _ h _ => h) (chD q) (fun W t hW _ => (chX hW).mono (fun e w' h => ⟨_, h.1, rfl, h.2⟩)) hW.here (by omega)).mono (fun e w' ⟨v, xs, he, ho, ht, hd⟩ => by
  obtain ⟨a, c, hv, _⟩ := ho.form
  exact ⟨⟨a, xs.length, c⟩, by rw [he, hv]; rfl, by rw [← slE1_of hv, ← ht.eq]; exact ho.zero, hd.since hW.fr⟩)
 clear h
 generalize (listD (chD q) n t).1 = ys at *
 generalize (listD (chD q) n t).2 = t2 at *
 go_enter Tryz.func51, Tryz.ntmps51
 go_wp2_with fail
 refine HC.out.mono ?_
 rintro e w1 ⟨rfl, h1⟩
 have HL1 := Lib.hid (HL.out _ h1)
 clear h1 HC HL
 go_wp2_with fail
 refine HL1.out.mono ?_
 rintro e w2 ⟨⟨xa, xn, xc⟩, rfl, ho, h2⟩
 obtain ⟨u, hu⟩ := h2.cIm (i := 6) (by decide)
 have fu := h2.free 7
 have H3 : Hid (SecP 81 5 lkE 6 B kb raw im en q p g w0 ys t2 (w2.setCell ⟨kb, 1 + 6, none⟩ (slE1 ⟨xa, xn, xc⟩))) := ⟨_, ho.fd (h2.fdSet _ _) (by decide) (by decide), h2.setIm (by decide) _⟩
 simp only [slE1, show (1 + 6 : Nat) = 7 from rfl] at H3 hu ⊢
 clear ho h2 HL1
 go_wp2_with fail
 go_end0
 exact ⟨rfl, H3.out⟩
set_option maxRecDepth 100000 in
set_option maxHeartbeats 4000000 in
theorem rdIrqsX (h : Dt B kb raw im en q p g w0 s w) : Calls Tryz.prog 52 #[.pointer (some ⟨kb, 0, none⟩)] w fun e w' => e = .returned (.tuple #[]) ∧ SecP 81 5 lkE 7 B kb raw im en q p g w0 (listD (iqD q) (manyD q s).1 (manyD q s).2).1 (listD (iqD q) (manyD q s).1 (manyD q s).2).2 w' := by
 have hm := many_le h
 have HC := Lib.hid (dmanyX h)
 generalize (manyD q s).1 = n at *
 generalize (manyD q s).2 = t at *
 have HL : Hid (∀ W, Dt B kb raw im en q p g w0 t W → Calls Tryz.prog 98 #[.pointer (some ⟨kb, 0, none⟩), .int .i64 (n : Int), (.func (.func 100) #[.pointer (some ⟨kb, 0, none⟩)] #[])] W fun e w' => ∃ x, e = .returned (slE1 x) ∧ OwnG 81 5 lkE w' 0 (slE1 x) (listD (iqD q) n t).1 ∧ Dt B kb raw im en q p g w0 (listD (iqD q) n t).2 w') := fun W hW => (listIqX (R := fun _ x y => x = y) (fun _ _ _ _ h _ => h) (iqD q) (fun W t hW _ => (iqX hW).mono (fun e w' h => ⟨_, h.1, rfl, h.2⟩)) hW.here (by omega)).mono (fun e w' ⟨v, xs, he, ho, ht, hd⟩ => by
  obtain ⟨a, c, hv, _⟩ := ho.form
  exact ⟨⟨a, xs.length, c⟩, by rw [he, hv]; rfl, by rw [← slE1_of hv, ← ht.eq]; exact ho.zero, hd.since hW.fr⟩)
 clear h
 generalize (listD (iqD q) n t).1 = ys at *
 generalize (listD (iqD q) n t).2 = t2 at *
 go_enter Tryz.func52, Tryz.ntmps52
 go_wp2_with fail
 refine HC.out.mono ?_
 rintro e w1 ⟨rfl, h1⟩
 have HL1 := Lib.hid (HL.out _ h1)
 clear h1 HC HL
 go_wp2_with fail
 refine HL1.out.mono ?_
 rintro e w2 ⟨⟨xa, xn, xc⟩, rfl, ho, h2⟩
 obtain ⟨u, hu⟩ := h2.cIm (i := 7) (by decide)
 have fu := h2.free 8
 have H3 : Hid (SecP 81 5 lkE 7 B kb raw im en q p g w0 ys t2 (w2.setCell ⟨kb, 1 + 7, none⟩ (slE1 ⟨xa, xn, xc⟩))) := ⟨_, ho.fd (h2.fdSet _ _) (by decide) (by decide), h2.setIm (by decide) _⟩
 simp only [slE1, show (1 + 7 : Nat) = 8 from rfl] at H3 hu ⊢
 clear ho h2 HL1
 go_wp2_with fail
 go_end0
 exact ⟨rfl, H3.out⟩
end
end Go.Proofs.YtnifefmfhjfbnaaGreatDoor
