import Derived.Test.YtmfkggngjeolcaaGreatDoorPk03
import Derived.WalkKit
import Derived.WalkSpells
import Derived.WalkLawsBesides
import Derived.Lib.Hide
set_option linter.unusedSimpArgs false
set_option linter.unusedVariables false
set_option maxHeartbeats 8000000
set_option maxRecDepth 100000
namespace Go.Proofs.YtmfkggngjeolcaaGreatDoor
open Go.RowKit
theorem wbytes_any {w : World} {p base : Nat} {v u : Value} {zs ys : List Nat} (h : Wr w p v zs 0 base) (hs : Sl w u ys) (hl : zs.length ≤ 549755813888) (hy : ys.length ≤ 549755813888) (hb : base ≤ w.heap.size) :
  Calls Tryz.prog 59 #[.pointer (some ⟨p, 0, none⟩), u] w fun e w' => e = .returned (.tuple #[]) ∧ ∃ v', Wr w' p v' (zs ++ ys) 0 base ∧ Keeps (Foot p v) w w' ∧ At w v v' := by
 have c0 := h.cell0;have c1 := h.cell1;have HW : Hid (Wr w p v zs 0 base) := h;have HS : Hid (Sl w u ys) := hs;clear h hs;go_enter Tryz.func59, Tryz.ntmps59
 go_wp2_with (at_builtin; refine wpList_append_sl (v := v) (.tmp 13) (.tmp 14) (by rfl) rfl rfl HW.out.2.1 rfl HS.out (by omega) hb ?_; intro v1 w1 ho hg hat; have hc1 := cell0_of (HW.out.after hg); have ht1 := thawed_of (HW.out.after hg); obtain ⟨ao, m, c, hv1⟩ : ∃ a m c, v1 = .slice a m c := (by rcases ho.2 with ⟨e, h0⟩ | ⟨g, c, _, e, _⟩ <;> exact ⟨_, _, _, e⟩); subst hv1; have HP : Hid (w1.heap[p]? = some (.cells #[v, .int .i64 0] 122 (0, 0))) := HW.out.after hg; have HO : Hid (Own w1 base (.slice ao m c) (zs ++ ys)) := ho; have HG : Hid (w.grownBy w1 v.ownBlock) := hg; have HA : Hid ((Value.slice ao m c).ownBlock = v.ownBlock ∨ (Value.slice ao m c).ownBlock = some w.heap.size) := hat; clear ho hg hat c0 c1)
 go_end0
 exact ⟨rfl, HW.out.stored (w0 := w) (Keeps.refl _ _) (Nat.le_refl _) HP.out HO.out HG.out HA.out HS.out.small⟩
theorem Sl.cutEnd {w : World} {ao : Option Addr} {fr : Nat} {zs : List Nat} (h : Sl w (.slice ao zs.length fr) zs) : Sl w (.slice ao 0 0) (zs.drop fr) := by
 obtain ⟨a, c, e, h1, h2, h3, h4, h5⟩ := h
 cases e
 have e : zs.drop fr = [] := List.drop_eq_nil_of_le (by omega);rw [e];exact ⟨ao, 0, rfl, by simp, by simp [maxLen], by simp, fun _ => rfl, fun i hi => by simp at hi⟩
theorem Sl.cut {w : World} {ao : Option Addr} {cap fr : Nat} {zs : List Nat} (h : Sl w (.slice ao zs.length cap) zs) (hf : fr ≤ zs.length) : Sl w (.slice (Option.map (fun x => x.add fr) ao) (zs.length - fr) (cap - fr)) (zs.drop fr) := by
 obtain ⟨a, c, e, h1, h2, h3, h4, h5⟩ := h
 cases e
 refine ⟨_, _, by rw [List.length_drop], by rw [List.length_drop]; omega, by omega, fun z hz => h3 z (List.mem_of_mem_drop hz), ?_, fun i hi => ?_⟩
 ·intro e
  cases ao with
  | none => have := h4 rfl; omega
  | some a => cases e
 ·rw [List.length_drop] at hi;obtain ⟨b, o, e, hc⟩ := h5 (fr + i) (by omega);subst e;refine ⟨b, o + fr, by simp [Addr.add_lit], ?_⟩;rw [Nat.add_assoc, hc]
  congr 3
  simp [List.getD_eq_getElem?_getD]
theorem drop_small {zs : List Nat} (h : ∀ z ∈ zs, z < 256) (n : Nat) : ∀ z ∈ zs.drop n, z < 256 := fun z hz => h z (List.mem_of_mem_drop hz)
theorem crc_lt {zs : List Nat} (h : ∀ z ∈ zs, z < 256) : Pl.crc zs ≤ 4294967295 := Nat.le_of_lt_succ (Pl.more_lt (by decide) h)
theorem wseal_any {w : World} {p base fr : Nat} {v : Value} {zs : List Nat} (ht : Tab w) (h : Wr w p v zs 0 base) (hf : fr ≤ zs.length) (hl : zs.length ≤ 549755813888) (hb : base ≤ w.heap.size) :
  Calls Tryz.prog 66 #[.pointer (some ⟨p, 0, none⟩), .int .i64 (fr : Int)] w fun e w' => e = .returned (.tuple #[]) ∧ ∃ v', Wr w' p v' (zs ++ Pl.le 4 (Pl.crc (zs.drop fr))) 0 base ∧ Keeps (Foot p v) w w' ∧ At w v v' := by
 have c0 := h.cell0;have c1 := h.cell1;have HW : Hid (Wr w p v zs 0 base) := h;have HT : Hid (Tab w) := ht;have HX : Hid (∀ w1, w1 = w → Calls Tryz.prog 61 #[.pointer (some ⟨p, 0, none⟩), .int .u32 (Pl.crc (zs.drop fr) : Nat)] w fun e w' => e = .returned (.tuple #[]) ∧ ∃ v', Wr w' p v' (zs ++ Pl.le 4 (Pl.crc (zs.drop fr))) 0 base ∧ Keeps (Foot p v) w w' ∧ At w v v') := fun _ _ => put_u32 h (crc_lt (drop_small h.2.2.2 fr)) hl hb;have hsl := h.2.1.sl h.2.2.2;obtain ⟨ao, cap, rfl, k1, k2, k3, k4, k5⟩ := id hsl;unfold maxLen at k2
 by_cases hc : cap = fr
 ·subst hc;have HS : Hid (Sl w (.slice ao 0 0) (zs.drop cap)) := hsl.cutEnd;clear h ht k3 k4 k5 hsl;go_enter Tryz.func66, Tryz.ntmps66
  go_wp2_with (go_at_call 105; refine (len_any HW.out).mono ?_; rintro e w' ⟨rfl, hw⟩; have hw := hw.symm; subst hw)
  refine (crc_any HT.out HS.out).mono ?_;rintro e w' ⟨rfl, hw⟩;rw [hw];clear hw w';go_wp2_with fail
  refine (HX.out _ rfl).mono ?_;rintro e w1 ⟨rfl, hx⟩;have HY := hx;have HZ : Hid (∃ v', Wr w1 p v' (zs ++ Pl.le 4 (Pl.crc (zs.drop cap))) 0 base ∧ Keeps (Foot p (.slice ao zs.length cap)) w w1 ∧ At w (.slice ao zs.length cap) v') := hx;clear hx HY HX;go_wp2
  go_end0
  exact ⟨rfl, HZ.out⟩
 ·have HS : Hid (Sl w (.slice (Option.map (fun x => x.add fr) ao) (zs.length - fr) (cap - fr)) (zs.drop fr)) := hsl.cut hf;clear h ht k3 k4 k5 hsl;go_enter Tryz.func66, Tryz.ntmps66
  go_wp2_with (go_at_call 105; refine (len_any HW.out).mono ?_; rintro e w' ⟨rfl, hw⟩; have hw := hw.symm; subst hw)
  refine (crc_any HT.out HS.out).mono ?_;rintro e w' ⟨rfl, hw⟩;rw [hw];clear hw w';go_wp2_with fail
  refine (HX.out _ rfl).mono ?_;rintro e w1 ⟨rfl, hx⟩;have HZ : Hid (∃ v', Wr w1 p v' (zs ++ Pl.le 4 (Pl.crc (zs.drop fr))) 0 base ∧ Keeps (Foot p (.slice ao zs.length cap)) w w1 ∧ At w (.slice ao zs.length cap) v') := hx;clear hx HX;go_wp2
  go_end0
  exact ⟨rfl, HZ.out⟩
end Go.Proofs.YtmfkggngjeolcaaGreatDoor
namespace Go.Proofs.YtmfkggngjeolcaaGreatDoor
open Go.RowKit
def fieldF (why : Int) (well : Bool) : Int := if well = true then why else 132
def askF (why : Int) (well : Bool) (no : Int) : Int := if well = false ∧ why ≠ 132 then no else why
theorem field_ask (why : Int) (well : Bool) : askF why well 132 = fieldF why well := by
 unfold askF fieldF
 cases well
 ·by_cases h : why = 132
  ·simp [h]
  ·simp [h]
 ·simp
def Tagd (w : World) (t : TypeId) (k : Nat) : Prop := ∃ cur, w.heap[k]? = some (.cells cur t (0, 0))
theorem tag_same {w : World} {t t' : TypeId} {k : Nat} (h : Tagd w t k) (h' : Tagd w t' k) : t = t' := by
 obtain ⟨c, hc⟩ := h;obtain ⟨d, hd⟩ := h';rw [hc] at hd;simp at hd
 exact hd.2
def FxS (B : Nat) (w : World) (k : Nat) : Prop := B ≤ k ∧ (Tagd w 91 k ∨ Tagd w 122 k ∨ Tagd w 5 k)
def Fx (B : Nat) (w w' : World) : Prop := Keeps (FxS B w) w w'
theorem Fx.refl (B : Nat) (w : World) : Fx B w w := Keeps.refl _ _
theorem Fx.trans {B : Nat} {a b c : World} (h : Fx B a b) (k : Fx B b c) : Fx B a c := by
 refine ⟨k.os.trans h.os, k.tape.trans h.tape, k.output.trans h.output, Nat.le_trans h.size k.size, fun i hi hn => ?_⟩;have e := h.block i hi hn;refine (k.block i (Nat.lt_of_lt_of_le hi h.size) (fun hs => hn ?_)).trans e;obtain ⟨h0, hs⟩ := hs;have tg : ∀ t, Tagd b t i → Tagd a t i := fun t ⟨cur, hc⟩ => ⟨cur, e.symm.trans hc⟩
 exact ⟨h0, hs.imp (tg _) (fun h => h.imp (tg _) (tg _))⟩
theorem Fx.of_below {B : Nat} {w w' : World} (h : Below w.heap.size w w') : Fx B w w' := Keeps.of_below h
theorem Fx.below {B : Nat} {w w' : World} (h : Fx B w w') (hB : B ≤ w.heap.size) : Below B w w' := Keeps.below h hB (fun k hk e => e.1)
theorem Fx.block' {B : Nat} {w w' : World} (h : Fx B w w') {t : TypeId} {g : Nat} (hg : Tagd w t g) (hl : g < w.heap.size) (h1 : t ≠ 91) (h2 : t ≠ 122) (h3 : t ≠ 5) : w'.heap[g]? = w.heap[g]? := Keeps.block h g hl (by
 rintro ⟨_, e | e | e⟩
 ·exact h1 (tag_same hg e)
 ·exact h2 (tag_same hg e)
 ·exact h3 (tag_same hg e))
def outV (o : Option Nat) : Value := .pointer (o.map fun p => ⟨p, 0, none⟩)
def lyC (im : List Value) (o : Option Nat) (n : Nat) (en : List Value) (why : Int) : List Value := im ++ outV o :: .int .i64 (n : Int) :: (en ++ [.int .i64 why])
structure St (B kb : Nat) (im : List Value) (o : Option Nat) (en : List Value) (w0 : World) (n : Nat) (zs : List Nat) (why : Int) (w : World) : Prop where
 blk : w.heap[kb]? = some (.cells (lyC im o n en why).toArray 91 (0, 0))
 him : im.length = 12
 hen : en.length = 45
 out : ∀ p, o = some p → ∃ v, Wr w p v zs 0 B ∧ p ≠ kb ∧ B ≤ p
 hB : B ≤ kb
 fr : Fx B w0 w
 sm : ∀ z ∈ zs, z < 256
section
variable {B kb : Nat} {im : List Value} {o : Option Nat} {en : List Value} {w0 : World} {n : Nat} {zs : List Nat} {why : Int} {w : World}
theorem St.lt (h : St B kb im o en w0 n zs why w) : kb < w.heap.size := (Array.getElem?_eq_some_iff.1 h.blk).1
theorem St.le (h : St B kb im o en w0 n zs why w) : B ≤ w.heap.size := by have := h.lt; have := h.hB; omega
theorem lyC_im {i : Nat} (h : im.length = 12) (hi : i < 12) : (lyC im o n en why)[i]? = im[i]? := by
 unfold lyC;rw [List.getElem?_append_left (by omega)]
theorem lyC_out (h : im.length = 12) : (lyC im o n en why)[12]? = some (outV o) := by
 unfold lyC;rw [List.getElem?_append_right (by omega), h]
 rfl
theorem lyC_at (h : im.length = 12) : (lyC im o n en why)[13]? = some (.int .i64 (n : Int)) := by
 unfold lyC;rw [List.getElem?_append_right (by omega), h]
 rfl
theorem lyC_en {i : Nat} (h : im.length = 12) (he : en.length = 45) (hi : i < 45) : (lyC im o n en why)[14 + i]? = en[i]? := by
 unfold lyC;rw [List.getElem?_append_right (by omega), h, show 14 + i - 12 = i + 1 + 1 by omega, List.getElem?_cons_succ, List.getElem?_cons_succ, List.getElem?_append_left (by omega)]
theorem lyC_why (h : im.length = 12) (he : en.length = 45) : (lyC im o n en why)[59]? = some (.int .i64 why) := by
 unfold lyC;rw [List.getElem?_append_right (by omega), h, show 59 - 12 = 45 + 1 + 1 by omega, List.getElem?_cons_succ, List.getElem?_cons_succ, List.getElem?_append_right (by omega), he]
 rfl
theorem lyC_setAt (h : im.length = 12) (m : Nat) : (lyC im o n en why).set 13 (.int .i64 (m : Int)) = lyC im o m en why := by
 unfold lyC;rw [List.set_append_right _ _ (by omega), h]
 rfl
theorem lyC_setWhy (h : im.length = 12) (he : en.length = 45) (y : Int) : (lyC im o n en why).set 59 (.int .i64 y) = lyC im o n en y := by
 unfold lyC;rw [List.set_append_right _ _ (by omega), h, show 59 - 12 = 45 + 1 + 1 by omega, List.set_cons_succ, List.set_cons_succ, List.set_append_right _ _ (by omega), he]
 rfl
theorem lyC_setEn {i : Nat} (h : im.length = 12) (he : en.length = 45) (hi : i < 45) (u : Value) : (lyC im o n en why).set (14 + i) u = lyC im o n (en.set i u) why := by
 unfold lyC;rw [List.set_append_right _ _ (by omega), h, show 14 + i - 12 = i + 1 + 1 by omega, List.set_cons_succ, List.set_cons_succ, List.set_append_left _ _ (by omega)]
theorem St.cell (h : St B kb im o en w0 n zs why w) (i : Nat) : w.cell? ⟨kb, i, none⟩ = (lyC im o n en why)[i]? := by
 rw [cell_of_row _ _ i _ _ _ h.blk, List.getElem?_toArray]
theorem St.cells (h : St B kb im o en w0 n zs why w) : w.cell? ⟨kb, 12, none⟩ = some (outV o) ∧ w.cell? ⟨kb, 13, none⟩ = some (.int .i64 (n : Int)) ∧ w.cell? ⟨kb, 59, none⟩ = some (.int .i64 why) :=
 ⟨(h.cell 12).trans (lyC_out h.him), (h.cell 13).trans (lyC_at h.him), (h.cell 59).trans (lyC_why h.him h.hen)⟩
theorem St.free (h : St B kb im o en w0 n zs why w) (i : Nat) : w.frozen? ⟨kb, i, none⟩ = false := by simp [World.frozen?, h.blk]
theorem Wr.setOther {p : Nat} {v : Value} {base : Nat} {kb i : Nat} {u : Value} (h : Wr w p v zs 0 base) (hp : p ≠ kb) (ht : ∃ c, w.heap[kb]? = some (.cells c 91 (0, 0))) : Wr (w.setCell ⟨kb, i, none⟩ u) p v zs 0 base := by
 obtain ⟨h1, h2, h3, h4⟩ := h;refine ⟨(Below.heap_setCell _ _ _ _ hp).trans h1, ?_, h3, h4⟩;refine Own.other h2 kb i u (fun e => ?_);rcases h2.2 with ⟨rfl, _⟩ | ⟨g, cap, cur, rfl, _, hg, _⟩
 ·cases e
 ·cases e
  obtain ⟨c, hc⟩ := ht;rw [hg] at hc;simp at hc
theorem St.set (h : St B kb im o en w0 n zs why w) {i : Nat} {u : Value} {n' : Nat} {en' : List Value} {why' : Int} (he : (lyC im o n en why).set i u = lyC im o n' en' why') (hl : en'.length = 45) : St B kb im o en' w0 n' zs why' (w.setCell ⟨kb, i, none⟩ u) := by
 refine ⟨?_, h.him, hl, fun p hp => ?_, h.hB, h.fr.trans (Keeps.mono (Keeps.setCell w kb i u) (fun k _ e => by subst e; exact ⟨h.hB, .inl ⟨_, h.blk⟩⟩)), h.sm⟩
 ·rw [← he];simp [World.setCell, Array.getElem?_modify, h.blk]
 ·obtain ⟨v, hv, h1, h2⟩ := h.out p hp;exact ⟨v, hv.setOther h1 ⟨_, h.blk⟩, h1, h2⟩
theorem St.setAt (h : St B kb im o en w0 n zs why w) (m : Nat) : St B kb im o en w0 m zs why (w.setCell ⟨kb, 13, none⟩ (.int .i64 (m : Int))) := h.set (lyC_setAt h.him m) h.hen
theorem St.setWhy (h : St B kb im o en w0 n zs why w) (y : Int) : St B kb im o en w0 n zs y (w.setCell ⟨kb, 59, none⟩ (.int .i64 y)) := h.set (lyC_setWhy h.him h.hen y) h.hen
theorem St.below {w' : World} (h : St B kb im o en w0 n zs why w) (hb : Below w.heap.size w w') : St B kb im o en w0 n zs why w' := by
 refine ⟨(hb.block kb h.lt).trans h.blk, h.him, h.hen, fun p hp => ?_, h.hB, h.fr.trans (Fx.of_below hb), h.sm⟩;obtain ⟨v, hv, h1, h2⟩ := h.out p hp;exact ⟨v, ⟨(hb.block p hv.lt).trans hv.1, hv.2.1.below hb, hv.2.2⟩, h1, h2⟩
theorem St.put {p : Nat} {w' : World} {v v' : Value} {ys : List Nat} (h : St B kb im (some p) en w0 n zs why w) (hv : Wr w p v zs 0 B) (hp : p ≠ kb) (hB : B ≤ p) (h' : Wr w' p v' (zs ++ ys) 0 B) (hk : Keeps (Foot p v) w w') : St B kb im (some p) en w0 n (zs ++ ys) why w' := by
 have hkb : ¬ Foot p v kb := by
  rintro (e | e)
  ·exact hp e.symm
  ·rcases hv.2.1.2 with ⟨rfl, _⟩ | ⟨g, cap, cur, rfl, _, hg, _⟩
   ·cases e
   ·cases e
    have := h.blk;rw [hg] at this;simp at this
 refine ⟨(hk.block kb h.lt hkb).trans h.blk, h.him, h.hen, fun q hq => ?_, h.hB, h.fr.trans (Keeps.mono hk (fun k _ e => ?_)), h'.2.2.2⟩
 ·cases hq
  exact ⟨v', h', hp, hB⟩
 ·rcases e with e | e
  ·subst e;exact ⟨hB, .inr (.inl ⟨_, hv.1⟩)⟩
  ·refine ⟨(hv.2.1.lt k e).1, .inr (.inr ?_)⟩;rcases hv.2.1.2 with ⟨rfl, _⟩ | ⟨g, cap, cur, rfl, _, hg, _⟩
   ·cases e
   ·cases e
    exact ⟨_, hg⟩
theorem St.ghost {ys : List Nat} (h : St B kb im none en w0 n zs why w) (hy : ∀ z ∈ ys, z < 256) : St B kb im none en w0 n (zs ++ ys) why w := ⟨h.blk, h.him, h.hen, fun p hp => (by cases hp), h.hB, h.fr, fun z hz => (List.mem_append.1 hz).elim (h.sm z) (hy z)⟩
theorem St.here (h : St B kb im o en w0 n zs why w) : St B kb im o en w n zs why w := ⟨h.blk, h.him, h.hen, h.out, h.hB, Fx.refl _ _, h.sm⟩
theorem St.since {w1 : World} (h : St B kb im o en w1 n zs why w) (k : Fx B w0 w1) : St B kb im o en w0 n zs why w := ⟨h.blk, h.him, h.hen, h.out, h.hB, k.trans h.fr, h.sm⟩
end
end Go.Proofs.YtmfkggngjeolcaaGreatDoor
namespace Go.Proofs.YtmfkggngjeolcaaGreatDoor
open Go.RowKit
section
variable {B kb : Nat} {im : List Value} {o : Option Nat} {en : List Value} {w0 : World} {n : Nat} {zs : List Nat} {why : Int} {w : World}
theorem ask_any (h : St B kb im o en w0 n zs why w) (b : Bool) (no : Int) : Calls Tryz.prog 126 #[.pointer (some ⟨kb, 0, none⟩), .bool b, .int .i64 no] w fun e w' => e = .returned (.tuple #[]) ∧ St B kb im o en w0 n zs (askF why b no) w' := by
 have HS := Lib.hid h;obtain ⟨c12, c13, c59⟩ := h.cells;have f59 := h.free 59;have HS2 := Lib.hid (h.setWhy no);clear h
 cases b with
 | true =>
  go_enter Tryz.func126, Tryz.ntmps126
  go_wp2_with fail
  go_end0
  exact ⟨rfl, HS.out⟩
 | false =>
  by_cases hy : why = 132
  ·subst hy;go_enter Tryz.func126, Tryz.ntmps126
   go_wp2_with fail
   go_end0
   exact ⟨rfl, HS.out⟩
  ·go_enter Tryz.func126, Tryz.ntmps126
   go_wp2_with fail
   go_end0
   refine ⟨rfl, ?_⟩;rw [show askF why false no = no by unfold askF; rw [if_pos ⟨rfl, hy⟩]];exact HS2.out
theorem field_any (h : St B kb im o en w0 n zs why w) (b : Bool) : Calls Tryz.prog 86 #[.pointer (some ⟨kb, 0, none⟩), .bool b] w fun e w' => e = .returned (.tuple #[]) ∧ St B kb im o en w0 n zs (fieldF why b) w' := by
 have HA := Lib.hid (ask_any h b 132);rw [field_ask] at HA;clear h;go_enter Tryz.func86, Tryz.ntmps86
 go_wp2_with fail
 refine HA.out.mono ?_;rintro e w1 ⟨rfl, h1⟩;have H1 := Lib.hid h1;clear h1 HA;go_wp2_with fail
 go_end0
 exact ⟨rfl, H1.out⟩
theorem St.wr {p : Nat} (h : St B kb im (some p) en w0 n zs why w) : ∃ v, Wr w p v zs 0 B ∧ p ≠ kb ∧ B ≤ p := h.out p rfl
def I64R (n : Int) : Prop := -9223372036854775808 ≤ n ∧ n ≤ 9223372036854775807
def noneB (n : Int) : Bool := decide (-1 ≤ n) && decide (n < 65535)
def fitB (lo hi n : Int) : Bool := decide (lo ≤ n) && decide (n ≤ hi)
theorem byte_any (h : St B kb im o en w0 zs.length zs why w) {k : Int} (hk : I64R k) (hl : zs.length ≤ 274877906944) : Calls Tryz.prog 90 #[.pointer (some ⟨kb, 0, none⟩), .int .i64 k] w fun e w' => e = .returned (.tuple #[]) ∧ St B kb im o en w0 (zs ++ Pl.le 1 (k % 256).toNat).length (zs ++ Pl.le 1 (k % 256).toNat) (fieldF why (fitB 0 255 k)) w' := by
 obtain ⟨hk1, hk2⟩ := hk;obtain ⟨m, hm⟩ : ∃ m : Nat, (k % 256).toNat = m := ⟨_, rfl⟩
 have hm2 : m ≤ 255 := by omega
 have hw : IntKind.u8.wrap k = (m : Int) := by rw [IntKind.wrap_u8']; omega
 have HF := Lib.hid (field_any h (fitB 0 255 k));obtain ⟨y, hy⟩ : ∃ y, fieldF why (fitB 0 255 k) = y := ⟨_, rfl⟩
 rw [hm];rw [hy] at HF ⊢;have HLz : Hid (zs.length ≤ 274877906944) := hl;have hb0 : (fitB 0 255 k = (decide ((0 : Int) ≤ k) && decide (k ≤ 255))) := rfl;rw [hb0] at HF;have hw1 : IntKind.i64.wrap ((zs.length : Int) + 1) = ((zs.length + 1 : Nat) : Int) := by rw [IntKind.wrap_i64]; omega
 have HLe : Hid ((zs ++ Pl.le 1 m).length = zs.length + 1) := show _ = _ by rw [List.length_append, Pl.le_length]
 have HSm : Hid (∀ z ∈ Pl.le 1 m, z < 256) := Pl.le_small 1 m;have HFin : Hid (∀ W, St B kb im o en w0 (zs.length + 1) (zs ++ Pl.le 1 m) y W → St B kb im o en w0 (zs ++ Pl.le 1 m).length (zs ++ Pl.le 1 m) y W) := fun W hW => by rw [HLe.out]; exact hW
 have HRest : Hid (∀ w1, St B kb im o en w0 zs.length zs y w1 → w1.cell? ⟨kb, 12, none⟩ = some (outV o) ∧ w1.cell? ⟨kb, 13, none⟩ = some (.int .i64 (zs.length : Int)) ∧ w1.frozen? ⟨kb, 13, none⟩ = false ∧ St B kb im o en w0 (zs.length + 1) zs y (w1.setCell ⟨kb, 13, none⟩ (.int .i64 ((zs.length + 1 : Nat) : Int)))) := fun w1 h1 => ⟨h1.cells.1, h1.cells.2.1, h1.free 13, h1.setAt _⟩
 clear h hm hy hb0 hl;obtain ⟨L, hL⟩ : ∃ L, zs.length = L := ⟨_, rfl⟩
 rw [hL] at hw1 HF HLe HFin HRest;clear hL
 cases o with
 | none =>
  simp only [outV, Option.map] at HRest
  by_cases h0 : 0 ≤ k
  ·by_cases h1 : k ≤ 255
   all_goals
    simp only [h0, h1, decide_true, decide_false, Bool.and_true, Bool.and_false, Bool.true_and, Bool.false_and] at HF;go_enter Tryz.func90, Tryz.ntmps90
    go_wp2_with fail
    refine HF.out.mono ?_;rintro e w1 ⟨rfl, h1⟩;obtain ⟨c12, c13, f13, h2⟩ := HRest.out w1 h1;have H2 := Lib.hid h2;clear h1 h2 HF HRest;go_wp2_with fail
    go_end0
    exact ⟨rfl, HFin.out _ (H2.out.ghost HSm.out)⟩
  ·simp only [h0, decide_false, Bool.false_and] at HF;go_enter Tryz.func90, Tryz.ntmps90
   go_wp2_with fail
   refine HF.out.mono ?_;rintro e w1 ⟨rfl, h1⟩;obtain ⟨c12, c13, f13, h2⟩ := HRest.out w1 h1;have H2 := Lib.hid h2;clear h1 h2 HF HRest;go_wp2_with fail
   go_end0
   exact ⟨rfl, HFin.out _ (H2.out.ghost HSm.out)⟩
 | some p =>
  simp only [outV, Option.map] at HRest
  by_cases h0 : 0 ≤ k
  ·by_cases h1 : k ≤ 255
   all_goals
    simp only [h0, h1, decide_true, decide_false, Bool.and_true, Bool.and_false, Bool.true_and, Bool.false_and] at HF;go_enter Tryz.func90, Tryz.ntmps90
    go_wp2_with fail
    refine HF.out.mono ?_;rintro e w1 ⟨rfl, h1⟩;obtain ⟨c12, c13, f13, h2⟩ := HRest.out w1 h1;have H2 := Lib.hid h2;have c12' : (w1.setCell ⟨kb, 13, none⟩ (.int .i64 ((L + 1 : Nat) : Int))).cell? ⟨kb, 12, none⟩ = some (.pointer (some ⟨p, 0, none⟩)) := h2.cells.1;clear h1 h2 HF HRest;go_wp2_with fail
    obtain ⟨v, hv, hp, hB⟩ := H2.out.wr;refine (put_u8 hv hm2 (by have := HLz.out; omega) H2.out.le).mono ?_;rintro e w3 ⟨rfl, v', hv', hk', _⟩;have H3 := Lib.hid (HFin.out _ (H2.out.put hv hp hB hv' hk'));clear hv hv' hk' H2;go_wp2_with fail
    go_end0
    exact ⟨rfl, H3.out⟩
  ·simp only [h0, decide_false, Bool.false_and] at HF;go_enter Tryz.func90, Tryz.ntmps90
   go_wp2_with fail
   refine HF.out.mono ?_;rintro e w1 ⟨rfl, h1⟩;obtain ⟨c12, c13, f13, h2⟩ := HRest.out w1 h1;have H2 := Lib.hid h2;have c12' : (w1.setCell ⟨kb, 13, none⟩ (.int .i64 ((L + 1 : Nat) : Int))).cell? ⟨kb, 12, none⟩ = some (.pointer (some ⟨p, 0, none⟩)) := h2.cells.1;clear h1 h2 HF HRest;go_wp2_with fail
   obtain ⟨v, hv, hp, hB⟩ := H2.out.wr;refine (put_u8 hv hm2 (by have := HLz.out; omega) H2.out.le).mono ?_;rintro e w3 ⟨rfl, v', hv', hk', _⟩;have H3 := Lib.hid (HFin.out _ (H2.out.put hv hp hB hv' hk'));clear hv hv' hk' H2;go_wp2_with fail
   go_end0
   exact ⟨rfl, H3.out⟩
theorem putHalf_any (h : St B kb im o en w0 zs.length zs why w) {m : Nat} (hm : m ≤ 65535) (hl : zs.length ≤ 274877906944) : Calls Tryz.prog 127 #[.pointer (some ⟨kb, 0, none⟩), .int .u16 (m : Int)] w fun e w' => e = .returned (.tuple #[]) ∧ St B kb im o en w0 (zs ++ Pl.le 2 m).length (zs ++ Pl.le 2 m) why w' := by
 have hw1 : IntKind.i64.wrap ((zs.length : Int) + 2) = ((zs.length + 2 : Nat) : Int) := by rw [IntKind.wrap_i64]; omega
 have HLe : Hid ((zs ++ Pl.le 2 m).length = zs.length + 2) := show _ = _ by rw [List.length_append, Pl.le_length]
 have HSm : Hid (∀ z ∈ Pl.le 2 m, z < 256) := Pl.le_small 2 m;have HLz : Hid (zs.length ≤ 274877906944) := hl;have HFin : Hid (∀ W, St B kb im o en w0 (zs.length + 2) (zs ++ Pl.le 2 m) why W → St B kb im o en w0 (zs ++ Pl.le 2 m).length (zs ++ Pl.le 2 m) why W) := fun W hW => by rw [HLe.out]; exact hW
 obtain ⟨c12, c13, c59⟩ := h.cells;have f13 := h.free 13;have H2 := Lib.hid (h.setAt (zs.length + 2));have c12' := (h.setAt (zs.length + 2)).cells.1;clear h hl;obtain ⟨L, hL⟩ : ∃ L, zs.length = L := ⟨_, rfl⟩
 rw [hL] at hw1 HLe HFin H2 c13 c12';clear hL
 cases o with
 | none =>
  simp only [outV, Option.map] at c12 c12';go_enter Tryz.func127, Tryz.ntmps127
  go_wp2_with fail
  go_end0
  exact ⟨rfl, HFin.out _ (H2.out.ghost HSm.out)⟩
 | some p =>
  simp only [outV, Option.map] at c12 c12';go_enter Tryz.func127, Tryz.ntmps127
  go_wp2_with fail
  obtain ⟨v, hv, hp, hB⟩ := H2.out.wr;refine (put_u16 hv hm (by have := HLz.out; omega) H2.out.le).mono ?_;rintro e w3 ⟨rfl, v', hv', hk', _⟩;have H3 := Lib.hid (HFin.out _ (H2.out.put hv hp hB hv' hk'));clear hv hv' hk' H2;go_wp2_with fail
  go_end0
  exact ⟨rfl, H3.out⟩
theorem half_any (h : St B kb im o en w0 zs.length zs why w) {k : Int} (hk : I64R k) (hl : zs.length ≤ 274877906944) : Calls Tryz.prog 87 #[.pointer (some ⟨kb, 0, none⟩), .int .i64 k] w fun e w' => e = .returned (.tuple #[]) ∧ St B kb im o en w0 (zs ++ Pl.le 2 (k % 65536).toNat).length (zs ++ Pl.le 2 (k % 65536).toNat) (fieldF why (fitB 0 65535 k)) w' := by
 obtain ⟨hk1, hk2⟩ := hk;obtain ⟨m, hm⟩ : ∃ m : Nat, (k % 65536).toNat = m := ⟨_, rfl⟩
 have hm2 : m ≤ 65535 := by omega
 have hw : IntKind.u16.wrap k = (m : Int) := by rw [IntKind.wrap_u16]; omega
 have HF := Lib.hid (field_any h (fitB 0 65535 k));obtain ⟨y, hy⟩ : ∃ y, fieldF why (fitB 0 65535 k) = y := ⟨_, rfl⟩
 rw [hm];rw [hy] at HF ⊢;have HLz : Hid (zs.length ≤ 274877906944) := hl;have hb0 : (fitB 0 65535 k = (decide ((0 : Int) ≤ k) && decide (k ≤ 65535))) := rfl;rw [hb0] at HF;have HP : Hid (∀ W, St B kb im o en w0 zs.length zs y W → Calls Tryz.prog 127 #[.pointer (some ⟨kb, 0, none⟩), .int .u16 (m : Int)] W fun e w' => e = .returned (.tuple #[]) ∧ St B kb im o en w0 (zs ++ Pl.le 2 m).length (zs ++ Pl.le 2 m) y w') := fun W hW => putHalf_any hW hm2 hl;clear h hm hy hb0 hl
 by_cases h0 : 0 ≤ k
 ·by_cases h1 : k ≤ 65535
  all_goals
   simp only [h0, h1, decide_true, decide_false, Bool.and_true, Bool.and_false, Bool.true_and, Bool.false_and] at HF;go_enter Tryz.func87, Tryz.ntmps87
   go_wp2_with fail
   refine HF.out.mono ?_;rintro e w1 ⟨rfl, h1⟩;have H1 := Lib.hid h1;clear h1 HF;go_wp2_with fail
   refine (HP.out _ H1.out).mono ?_;rintro e w3 ⟨rfl, h3⟩;have H3 := Lib.hid h3;clear h3 H1 HP;go_wp2_with fail
   go_end0
   exact ⟨rfl, H3.out⟩
 ·simp only [h0, decide_false, Bool.false_and] at HF;go_enter Tryz.func87, Tryz.ntmps87
  go_wp2_with fail
  refine HF.out.mono ?_;rintro e w1 ⟨rfl, h1⟩;have H1 := Lib.hid h1;clear h1 HF;go_wp2_with fail
  refine (HP.out _ H1.out).mono ?_;rintro e w3 ⟨rfl, h3⟩;have H3 := Lib.hid h3;clear h3 H1 HP;go_wp2_with fail
  go_end0
  exact ⟨rfl, H3.out⟩
theorem orNone_any (h : St B kb im o en w0 zs.length zs why w) {k : Int} (hk : I64R k) (hl : zs.length ≤ 274877906944) : Calls Tryz.prog 92 #[.pointer (some ⟨kb, 0, none⟩), .int .i64 k] w fun e w' => e = .returned (.tuple #[]) ∧ St B kb im o en w0 (zs ++ Pl.le 2 (k % 65536).toNat).length (zs ++ Pl.le 2 (k % 65536).toNat) (fieldF why (noneB k)) w' := by
 obtain ⟨hk1, hk2⟩ := hk;obtain ⟨m, hm⟩ : ∃ m : Nat, (k % 65536).toNat = m := ⟨_, rfl⟩
 have hm2 : m ≤ 65535 := by omega
 have hw : IntKind.u16.wrap k = (m : Int) := by rw [IntKind.wrap_u16]; omega
 have HF := Lib.hid (field_any h (noneB k));obtain ⟨y, hy⟩ : ∃ y, fieldF why (noneB k) = y := ⟨_, rfl⟩
 rw [hm];rw [hy] at HF ⊢;have HLz : Hid (zs.length ≤ 274877906944) := hl;have hb0 : (noneB k = (decide ((-1 : Int) ≤ k) && decide (k < 65535))) := rfl;rw [hb0] at HF;have HP : Hid (∀ W, St B kb im o en w0 zs.length zs y W → Calls Tryz.prog 127 #[.pointer (some ⟨kb, 0, none⟩), .int .u16 (m : Int)] W fun e w' => e = .returned (.tuple #[]) ∧ St B kb im o en w0 (zs ++ Pl.le 2 m).length (zs ++ Pl.le 2 m) y w') := fun W hW => putHalf_any hW hm2 hl;clear h hm hy hb0 hl
 by_cases h0 : -1 ≤ k
 ·by_cases h1 : k < 65535
  all_goals
   simp only [h0, h1, decide_true, decide_false, Bool.and_true, Bool.and_false, Bool.true_and, Bool.false_and] at HF;go_enter Tryz.func92, Tryz.ntmps92
   go_wp2_with fail
   refine HF.out.mono ?_;rintro e w1 ⟨rfl, h1⟩;have H1 := Lib.hid h1;clear h1 HF;go_wp2_with fail
   refine (HP.out _ H1.out).mono ?_;rintro e w3 ⟨rfl, h3⟩;have H3 := Lib.hid h3;clear h3 H1 HP;go_wp2_with fail
   go_end0
   exact ⟨rfl, H3.out⟩
 ·simp only [h0, decide_false, Bool.false_and] at HF;go_enter Tryz.func92, Tryz.ntmps92
  go_wp2_with fail
  refine HF.out.mono ?_;rintro e w1 ⟨rfl, h1⟩;have H1 := Lib.hid h1;clear h1 HF;go_wp2_with fail
  refine (HP.out _ H1.out).mono ?_;rintro e w3 ⟨rfl, h3⟩;have H3 := Lib.hid h3;clear h3 H1 HP;go_wp2_with fail
  go_end0
  exact ⟨rfl, H3.out⟩
theorem lword_any (h : St B kb im o en w0 zs.length zs why w) {k : Int} (hk : I64R k) (hl : zs.length ≤ 274877906944) : Calls Tryz.prog 95 #[.pointer (some ⟨kb, 0, none⟩), .int .i64 k] w fun e w' => e = .returned (.tuple #[]) ∧ St B kb im o en w0 (zs ++ Pl.le 4 (k % 4294967296).toNat).length (zs ++ Pl.le 4 (k % 4294967296).toNat) (fieldF why (fitB 0 4294967295 k)) w' := by
 obtain ⟨hk1, hk2⟩ := hk;obtain ⟨m, hm⟩ : ∃ m : Nat, (k % 4294967296).toNat = m := ⟨_, rfl⟩
 have hm2 : m ≤ 4294967295 := by omega
 have hw : IntKind.u32.wrap k = (m : Int) := by rw [IntKind.wrap_u32]; omega
 have HF := Lib.hid (field_any h (fitB 0 4294967295 k));obtain ⟨y, hy⟩ : ∃ y, fieldF why (fitB 0 4294967295 k) = y := ⟨_, rfl⟩
 rw [hm];rw [hy] at HF ⊢;have HLz : Hid (zs.length ≤ 274877906944) := hl;have hb0 : (fitB 0 4294967295 k = (decide ((0 : Int) ≤ k) && decide (k ≤ 4294967295))) := rfl;rw [hb0] at HF;have hw1 : IntKind.i64.wrap ((zs.length : Int) + 4) = ((zs.length + 4 : Nat) : Int) := by rw [IntKind.wrap_i64]; omega
 have HLe : Hid ((zs ++ Pl.le 4 m).length = zs.length + 4) := show _ = _ by rw [List.length_append, Pl.le_length]
 have HSm : Hid (∀ z ∈ Pl.le 4 m, z < 256) := Pl.le_small 4 m;have HFin : Hid (∀ W, St B kb im o en w0 (zs.length + 4) (zs ++ Pl.le 4 m) y W → St B kb im o en w0 (zs ++ Pl.le 4 m).length (zs ++ Pl.le 4 m) y W) := fun W hW => by rw [HLe.out]; exact hW
 have HRest : Hid (∀ w1, St B kb im o en w0 zs.length zs y w1 → w1.cell? ⟨kb, 12, none⟩ = some (outV o) ∧ w1.cell? ⟨kb, 13, none⟩ = some (.int .i64 (zs.length : Int)) ∧ w1.frozen? ⟨kb, 13, none⟩ = false ∧ St B kb im o en w0 (zs.length + 4) zs y (w1.setCell ⟨kb, 13, none⟩ (.int .i64 ((zs.length + 4 : Nat) : Int)))) := fun w1 h1 => ⟨h1.cells.1, h1.cells.2.1, h1.free 13, h1.setAt _⟩
 clear h hm hy hb0 hl;obtain ⟨L, hL⟩ : ∃ L, zs.length = L := ⟨_, rfl⟩
 rw [hL] at hw1 HF HLe HFin HRest;clear hL
 cases o with
 | none =>
  simp only [outV, Option.map] at HRest
  by_cases h0 : 0 ≤ k
  ·by_cases h1 : k ≤ 4294967295
   all_goals
    simp only [h0, h1, decide_true, decide_false, Bool.and_true, Bool.and_false, Bool.true_and, Bool.false_and] at HF;go_enter Tryz.func95, Tryz.ntmps95
    go_wp2_with fail
    refine HF.out.mono ?_;rintro e w1 ⟨rfl, h1⟩;obtain ⟨c12, c13, f13, h2⟩ := HRest.out w1 h1;have H2 := Lib.hid h2;clear h1 h2 HF HRest;go_wp2_with fail
    go_end0
    exact ⟨rfl, HFin.out _ (H2.out.ghost HSm.out)⟩
  ·simp only [h0, decide_false, Bool.false_and] at HF;go_enter Tryz.func95, Tryz.ntmps95
   go_wp2_with fail
   refine HF.out.mono ?_;rintro e w1 ⟨rfl, h1⟩;obtain ⟨c12, c13, f13, h2⟩ := HRest.out w1 h1;have H2 := Lib.hid h2;clear h1 h2 HF HRest;go_wp2_with fail
   go_end0
   exact ⟨rfl, HFin.out _ (H2.out.ghost HSm.out)⟩
 | some p =>
  simp only [outV, Option.map] at HRest
  by_cases h0 : 0 ≤ k
  ·by_cases h1 : k ≤ 4294967295
   all_goals
    simp only [h0, h1, decide_true, decide_false, Bool.and_true, Bool.and_false, Bool.true_and, Bool.false_and] at HF;go_enter Tryz.func95, Tryz.ntmps95
    go_wp2_with fail
    refine HF.out.mono ?_;rintro e w1 ⟨rfl, h1⟩;obtain ⟨c12, c13, f13, h2⟩ := HRest.out w1 h1;have H2 := Lib.hid h2;have c12' : (w1.setCell ⟨kb, 13, none⟩ (.int .i64 ((L + 4 : Nat) : Int))).cell? ⟨kb, 12, none⟩ = some (.pointer (some ⟨p, 0, none⟩)) := h2.cells.1;clear h1 h2 HF HRest;go_wp2_with fail
    obtain ⟨v, hv, hp, hB⟩ := H2.out.wr;refine (put_u32 hv hm2 (by have := HLz.out; omega) H2.out.le).mono ?_;rintro e w3 ⟨rfl, v', hv', hk', _⟩;have H3 := Lib.hid (HFin.out _ (H2.out.put hv hp hB hv' hk'));clear hv hv' hk' H2;go_wp2_with fail
    go_end0
    exact ⟨rfl, H3.out⟩
  ·simp only [h0, decide_false, Bool.false_and] at HF;go_enter Tryz.func95, Tryz.ntmps95
   go_wp2_with fail
   refine HF.out.mono ?_;rintro e w1 ⟨rfl, h1⟩;obtain ⟨c12, c13, f13, h2⟩ := HRest.out w1 h1;have H2 := Lib.hid h2;have c12' : (w1.setCell ⟨kb, 13, none⟩ (.int .i64 ((L + 4 : Nat) : Int))).cell? ⟨kb, 12, none⟩ = some (.pointer (some ⟨p, 0, none⟩)) := h2.cells.1;clear h1 h2 HF HRest;go_wp2_with fail
   obtain ⟨v, hv, hp, hB⟩ := H2.out.wr;refine (put_u32 hv hm2 (by have := HLz.out; omega) H2.out.le).mono ?_;rintro e w3 ⟨rfl, v', hv', hk', _⟩;have H3 := Lib.hid (HFin.out _ (H2.out.put hv hp hB hv' hk'));clear hv hv' hk' H2;go_wp2_with fail
   go_end0
   exact ⟨rfl, H3.out⟩
theorem long_any (h : St B kb im o en w0 zs.length zs why w) {m : Nat} (hm : m ≤ 18446744073709551615) (hl : zs.length ≤ 274877906944) : Calls Tryz.prog 93 #[.pointer (some ⟨kb, 0, none⟩), .int .u64 (m : Int)] w fun e w' => e = .returned (.tuple #[]) ∧ St B kb im o en w0 (zs ++ Pl.le 8 m).length (zs ++ Pl.le 8 m) why w' := by
 have hw1 : IntKind.i64.wrap ((zs.length : Int) + 8) = ((zs.length + 8 : Nat) : Int) := by rw [IntKind.wrap_i64]; omega
 have HLe : Hid ((zs ++ Pl.le 8 m).length = zs.length + 8) := show _ = _ by rw [List.length_append, Pl.le_length]
 have HSm : Hid (∀ z ∈ Pl.le 8 m, z < 256) := Pl.le_small 8 m;have HLz : Hid (zs.length ≤ 274877906944) := hl;have HFin : Hid (∀ W, St B kb im o en w0 (zs.length + 8) (zs ++ Pl.le 8 m) why W → St B kb im o en w0 (zs ++ Pl.le 8 m).length (zs ++ Pl.le 8 m) why W) := fun W hW => by rw [HLe.out]; exact hW
 obtain ⟨c12, c13, c59⟩ := h.cells;have f13 := h.free 13;have H2 := Lib.hid (h.setAt (zs.length + 8));have c12' := (h.setAt (zs.length + 8)).cells.1;clear h hl;obtain ⟨L, hL⟩ : ∃ L, zs.length = L := ⟨_, rfl⟩
 rw [hL] at hw1 HLe HFin H2 c13 c12';clear hL
 cases o with
 | none =>
  simp only [outV, Option.map] at c12 c12';go_enter Tryz.func93, Tryz.ntmps93
  go_wp2_with fail
  go_end0
  exact ⟨rfl, HFin.out _ (H2.out.ghost HSm.out)⟩
 | some p =>
  simp only [outV, Option.map] at c12 c12';go_enter Tryz.func93, Tryz.ntmps93
  go_wp2_with fail
  obtain ⟨v, hv, hp, hB⟩ := H2.out.wr;refine (put_u64 hv hm (by have := HLz.out; omega) H2.out.le).mono ?_;rintro e w3 ⟨rfl, v', hv', hk', _⟩;have H3 := Lib.hid (HFin.out _ (H2.out.put hv hp hB hv' hk'));clear hv hv' hk' H2;go_wp2_with fail
  go_end0
  exact ⟨rfl, H3.out⟩
end
end Go.Proofs.YtmfkggngjeolcaaGreatDoor
