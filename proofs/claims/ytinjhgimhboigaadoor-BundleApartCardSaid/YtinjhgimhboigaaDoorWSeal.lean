/- Writer.Bytes, Writer.Seal. -/
import Derived.Test.YtinjhgimhboigaaDoorWPad
namespace Go.Proofs.YtinjhgimhboigaaDoor
open Go.RowKit
set_option maxHeartbeats 1000000 in
theorem wbytes_any {w : World} {p base : Nat} {v u : Value} {zs ys : List Nat} (h : Wr w p v zs 0 base) (hs : Sl w u ys) (hl : zs.length ≤ 549755813888) (hy : ys.length ≤ 549755813888) (hb : base ≤ w.heap.size) :
    Calls Tryd.prog 28 #[.pointer (some ⟨p, 0, none⟩), u] w fun e w' => e = .returned (.tuple #[]) ∧ ∃ v', Wr w' p v' (zs ++ ys) 0 base ∧ Keeps (Foot p v) w w' ∧ At w v v' := by
  have c0 := h.cell0
  have c1 := h.cell1
  have HW : Hid (Wr w p v zs 0 base) := h
  have HS : Hid (Sl w u ys) := hs
  clear h hs
  go_enter Tryd.func28, Tryd.ntmps28
  go_wp2_with (at_builtin; refine wpList_append_sl (v := v) (.tmp 13) (.tmp 14) (by rfl) rfl rfl HW.out.2.1 rfl HS.out (by omega) hb ?_; intro v1 w1 ho hg hat; have hc1 := cell0_of (HW.out.after hg); have ht1 := thawed_of (HW.out.after hg); obtain ⟨ao, m, c, hv1⟩ : ∃ a m c, v1 = .slice a m c := (by rcases ho.2 with ⟨e, h0⟩ | ⟨g, c, _, e, _⟩ <;> exact ⟨_, _, _, e⟩); subst hv1; have HP : Hid (w1.heap[p]? = some (.cells #[v, .int .i64 0] 76 (0, 0))) := HW.out.after hg; have HO : Hid (Own w1 base (.slice ao m c) (zs ++ ys)) := ho; have HG : Hid (w.grownBy w1 v.ownBlock) := hg; have HA : Hid ((Value.slice ao m c).ownBlock = v.ownBlock ∨ (Value.slice ao m c).ownBlock = some w.heap.size) := hat; clear ho hg hat c0 c1)
  go_end0
  exact ⟨rfl, HW.out.stored (w0 := w) (Keeps.refl _ _) (Nat.le_refl _) HP.out HO.out HG.out HA.out HS.out.small⟩
set_option maxHeartbeats 400000 in
theorem wbytes_not {w : World} {p base : Nat} {why : Int} {v u : Value} {zs : List Nat} (h : Wr w p v zs why base) (hw : why ≠ 0) :
    Calls Tryd.prog 28 #[.pointer (some ⟨p, 0, none⟩), u] w fun e w' => e = .returned (.tuple #[]) ∧ w' = w := by
  have c1 := h.cell1
  have hb : (why == 0) = false := by simpa using hw
  clear h
  go_enter Tryd.func28, Tryd.ntmps28
  go_wp2
  go_end0
  exact ⟨rfl, rfl⟩
theorem Sl.cutEnd {w : World} {ao : Option Addr} {fr : Nat} {zs : List Nat} (h : Sl w (.slice ao zs.length fr) zs) : Sl w (.slice ao 0 0) (zs.drop fr) := by
  obtain ⟨a, c, e, h1, h2, h3, h4, h5⟩ := h
  cases e
  have e : zs.drop fr = [] := List.drop_eq_nil_of_le (by omega)
  rw [e]
  exact ⟨ao, 0, rfl, by simp, by simp [maxLen], by simp, fun _ => rfl, fun i hi => by simp at hi⟩
theorem Sl.cut {w : World} {ao : Option Addr} {cap fr : Nat} {zs : List Nat} (h : Sl w (.slice ao zs.length cap) zs) (hf : fr ≤ zs.length) : Sl w (.slice (Option.map (fun x => x.add fr) ao) (zs.length - fr) (cap - fr)) (zs.drop fr) := by
  obtain ⟨a, c, e, h1, h2, h3, h4, h5⟩ := h
  cases e
  refine ⟨_, _, by rw [List.length_drop], by rw [List.length_drop]; omega, by omega, fun z hz => h3 z (List.mem_of_mem_drop hz), ?_, fun i hi => ?_⟩
  · intro e
    cases ao with
    | none => have := h4 rfl; omega
    | some a => cases e
  · rw [List.length_drop] at hi
    obtain ⟨b, o, e, hc⟩ := h5 (fr + i) (by omega)
    subst e
    refine ⟨b, o + fr, by simp [Addr.add_lit], ?_⟩
    rw [Nat.add_assoc, hc]
    congr 3
    simp [List.getD_eq_getElem?_getD]
theorem drop_small {zs : List Nat} (h : ∀ z ∈ zs, z < 256) (n : Nat) : ∀ z ∈ zs.drop n, z < 256 := fun z hz => h z (List.mem_of_mem_drop hz)
theorem crc_lt {zs : List Nat} (h : ∀ z ∈ zs, z < 256) : Pl.crc zs ≤ 4294967295 := Nat.le_of_lt_succ (Pl.more_lt (by decide) h)
set_option maxHeartbeats 1000000 in
theorem wseal_any {w : World} {p base fr : Nat} {v : Value} {zs : List Nat} (ht : Tab w) (h : Wr w p v zs 0 base) (hf : fr ≤ zs.length) (hl : zs.length ≤ 549755813888) (hb : base ≤ w.heap.size) :
    Calls Tryd.prog 35 #[.pointer (some ⟨p, 0, none⟩), .int .i64 (fr : Int)] w fun e w' => e = .returned (.tuple #[]) ∧ ∃ v', Wr w' p v' (zs ++ Pl.le 4 (Pl.crc (zs.drop fr))) 0 base ∧ Keeps (Foot p v) w w' ∧ At w v v' := by
  have c0 := h.cell0
  have c1 := h.cell1
  have HW : Hid (Wr w p v zs 0 base) := h
  have HT : Hid (Tab w) := ht
  have HX : Hid (∀ w1, w1 = w → Calls Tryd.prog 30 #[.pointer (some ⟨p, 0, none⟩), .int .u32 (Pl.crc (zs.drop fr) : Nat)] w fun e w' => e = .returned (.tuple #[]) ∧ ∃ v', Wr w' p v' (zs ++ Pl.le 4 (Pl.crc (zs.drop fr))) 0 base ∧ Keeps (Foot p v) w w' ∧ At w v v') := fun _ _ => put_u32 h (crc_lt (drop_small h.2.2.2 fr)) hl hb
  have hsl := h.2.1.sl h.2.2.2
  obtain ⟨ao, cap, rfl, k1, k2, k3, k4, k5⟩ := id hsl
  unfold maxLen at k2
  by_cases hc : cap = fr
  · subst hc
    have HS : Hid (Sl w (.slice ao 0 0) (zs.drop cap)) := hsl.cutEnd
    clear h ht k3 k4 k5 hsl
    go_enter Tryd.func35, Tryd.ntmps35
    go_wp2_with (go_at_call 55; refine (len_any HW.out).mono ?_; rintro e w' ⟨rfl, hw⟩; have hw := hw.symm; subst hw)
    refine (crc_any HT.out HS.out).mono ?_
    rintro e w' ⟨rfl, hw⟩
    rw [hw]
    clear hw w'
    go_wp2_with fail
    refine (HX.out _ rfl).mono ?_
    rintro e w1 ⟨rfl, hx⟩
    have HY := hx
    have HZ : Hid (∃ v', Wr w1 p v' (zs ++ Pl.le 4 (Pl.crc (zs.drop cap))) 0 base ∧ Keeps (Foot p (.slice ao zs.length cap)) w w1 ∧ At w (.slice ao zs.length cap) v') := hx
    clear hx HY HX
    go_wp2
    go_end0
    exact ⟨rfl, HZ.out⟩
  · have HS : Hid (Sl w (.slice (Option.map (fun x => x.add fr) ao) (zs.length - fr) (cap - fr)) (zs.drop fr)) := hsl.cut hf
    clear h ht k3 k4 k5 hsl
    go_enter Tryd.func35, Tryd.ntmps35
    go_wp2_with (go_at_call 55; refine (len_any HW.out).mono ?_; rintro e w' ⟨rfl, hw⟩; have hw := hw.symm; subst hw)
    refine (crc_any HT.out HS.out).mono ?_
    rintro e w' ⟨rfl, hw⟩
    rw [hw]
    clear hw w'
    go_wp2_with fail
    refine (HX.out _ rfl).mono ?_
    rintro e w1 ⟨rfl, hx⟩
    have HZ : Hid (∃ v', Wr w1 p v' (zs ++ Pl.le 4 (Pl.crc (zs.drop fr))) 0 base ∧ Keeps (Foot p (.slice ao zs.length cap)) w w1 ∧ At w (.slice ao zs.length cap) v') := hx
    clear hx HX
    go_wp2
    go_end0
    exact ⟨rfl, HZ.out⟩
set_option maxHeartbeats 400000 in
theorem wseal_bad {w : World} {p base : Nat} {fr : Int} {v : Value} {zs : List Nat} (h : Wr w p v zs 0 base) (hf : fr < 0 ∨ (zs.length : Int) < fr) :
    Calls Tryd.prog 35 #[.pointer (some ⟨p, 0, none⟩), .int .i64 fr] w fun e w' => e = .returned (.tuple #[]) ∧ Wr w' p v zs 1 base ∧ Keeps (fun k => k = p) w w' := by
  have c1 := h.cell1
  have t1 := h.thawed 1
  have HW : Hid (Wr w p v zs 0 base) := h
  clear h
  by_cases h0 : fr < 0
  · clear hf
    go_enter Tryd.func35, Tryd.ntmps35
    go_wp2
    go_end0
    exact ⟨rfl, HW.out.refuse 1, Keeps.setCell w p 1 _⟩
  · have hg : (zs.length : Int) < fr := hf.resolve_left h0
    clear hf
    go_enter Tryd.func35, Tryd.ntmps35
    go_wp2_with (go_at_call 55; refine (len_any HW.out).mono ?_; rintro e w' ⟨rfl, hw⟩; have hw := hw.symm; subst hw)
    go_end0
    exact ⟨rfl, HW.out.refuse 1, Keeps.setCell w p 1 _⟩
set_option maxHeartbeats 400000 in
theorem wseal_not {w : World} {p base : Nat} {fr why : Int} {v : Value} {zs : List Nat} (h : Wr w p v zs why base) (hw : why ≠ 0) :
    Calls Tryd.prog 35 #[.pointer (some ⟨p, 0, none⟩), .int .i64 fr] w fun e w' => e = .returned (.tuple #[]) ∧ w' = w := by
  have c1 := h.cell1
  have hb : (why != 0) = true := by simpa using hw
  clear h
  go_enter Tryd.func35, Tryd.ntmps35
  go_wp2
  go_end0
  exact ⟨rfl, rfl⟩
end Go.Proofs.YtinjhgimhboigaaDoor
