import Derived.Test.YtnifefmfhjfbnaaGreatDoorPk27
import Derived.Test.YtnifefmfhjfbnaaGreatDoorPk20
import Derived.Test.YtnifefmfhjfbnaaGreatDoorPk10
import Derived.Lib.Hide
import Derived.Deep.DeepCutAuto
import Derived.Deep.CutBlock
/- Bundle: what the reader takes, a plan (written by parts/gen_dcpln.py). Own work. -/
namespace Go.Proofs.YtnifefmfhjfbnaaGreatDoor
open Go.RowKit Bn Dc
set_option linter.unusedVariables false
set_option linter.unusedSimpArgs false
section
variable {B kb : Nat} {raw : Value} {im en : List Value} {q : Pt} {p g : Nat} {w0 : World} {s : D} {w w' : World}
/-- the boxes that a closure keeps -/
def Bx2 (kb b1 b2 N : Nat) (w : World) : Prop := w.heap[b1]? = some (.cells ([.pointer (some ⟨kb, 0, none⟩)] : List Value).toArray 63 (0, 0)) ∧ w.heap[b2]? = some (.cells ([.int .i64 (N : Int)] : List Value).toArray 3 (0, 0))
theorem Bx2.fd {b1 b2 N : Nat} (h : Bx2 kb b1 b2 N w) (hf : Fd B w w') : Bx2 kb b1 b2 N w' := ⟨(hf.block' ⟨_, h.1⟩ (by decide) (by decide)).trans h.1, (hf.block' ⟨_, h.2⟩ (by decide) (by decide)).trans h.2⟩
theorem Bx2.low {b1 b2 N : Nat} (h : Bx2 kb b1 b2 N w) (hf : Below w.heap.size w w') : Bx2 kb b1 b2 N w' := h.fd (B := 0) (Fd.of_below hf)
theorem Bx2.c1 {b1 b2 N : Nat} (h : Bx2 kb b1 b2 N w) : w.cell? ⟨b1, 0, none⟩ = some (.pointer (some ⟨kb, 0, none⟩)) := box_cell h.1 0
theorem Bx2.c2 {b1 b2 N : Nat} (h : Bx2 kb b1 b2 N w) : w.cell? ⟨b2, 0, none⟩ = some (.int .i64 (N : Int)) := box_cell h.2 0
theorem Tagd.set {t : TypeId} {n m i : Nat} {u : Value} (h : Tagd w t n) : Tagd (w.setCell ⟨m, i, none⟩ u) t n := by
 obtain ⟨cur, hc⟩ := h
 by_cases e : n = m
 ·subst e
  exact ⟨cur.setIfInBounds i u, by simp [World.setCell, Array.getElem?_modify, hc]⟩
 ·exact ⟨cur, ((Keeps.setCell w m i u).block n (Array.getElem?_eq_some_iff.1 hc).1 e).trans hc⟩
theorem LaO.set {v : SlV} {ls : List (List (Int × Int))} {m i : Nat} {u : Value} (h : LaO w v ls) (ht : Tagd w 87 m) : LaO (w.setCell ⟨m, i, none⟩ u) v ls := h.rz (u := 87) (Keeps.mono (Keeps.setCell w m i u) (fun k _ e => by subst e; exact .inr (.inr ht))) (by decide) (by decide)
set_option maxRecDepth 100000 in
set_option maxHeartbeats 4000000 in
theorem dplanX {b1 b2 N : Nat} (h : Dt B kb raw im en q p g w0 s w) (hbx : Bx2 kb b1 b2 N w) (hN : N ≤ 65535) : Calls Tryz.prog 103 #[.pointer (some ⟨b1, 0, none⟩), .pointer (some ⟨b2, 0, none⟩)] w fun e w' => ∃ x, e = .returned (.agg (scE x).toArray) ∧ ScO w' x (planD q N s).1 ∧ Dt B kb raw im en q p g w0 (planD q N s).2 w' := by
 obtain ⟨h1, hf1, hb1, hl1⟩ := h.boxed (.cells ([.int .i64 0, .slice none 0 0] : List Value).toArray 87)
 have HF := Lib.hid hf1
 have HS : Hid (w0.heap.size ≤ w.heap.size) := h.fr.size
 have HB : Hid (∀ W t, Dt B kb raw im en q p g (w.alloc (.cells ([.int .i64 0, .slice none 0 0] : List Value).toArray 87)) t W → W.heap[w.heap.size]? = some (.cells ([.int .i64 0, .slice none 0 0] : List Value).toArray 87 (0, 0))) := fun W t hW => hW.box hb1 (by decide) (by decide)
 have HX1 : Hid (Bx2 kb b1 b2 N (w.alloc (.cells ([.int .i64 0, .slice none 0 0] : List Value).toArray 87))) := hbx.low hl1
 have HXf : Hid (∀ W W' t, Hid (Bx2 kb b1 b2 N W) → Dt B kb raw im en q p g W t W' → Hid (Bx2 kb b1 b2 N W')) := fun W W' t hb hd => hb.out.fd hd.fr
 have H0 : Hid (Dt B kb raw im en q p g (w.alloc (.cells ([.int .i64 0, .slice none 0 0] : List Value).toArray 87)) s (w.alloc (.cells ([.int .i64 0, .slice none 0 0] : List Value).toArray 87))) := h1
 obtain ⟨v0, s1, e0⟩ : ∃ v t, takeD q 4 s = (v, t) := ⟨_, _, rfl⟩
 obtain ⟨s2, e1⟩ : ∃ t, zerosD q 4 s1 = t := ⟨_, rfl⟩
 obtain ⟨L, s3, e2⟩ : ∃ v t, listD (laneD q) N s2 = (v, t) := ⟨_, _, rfl⟩
 have K0 : Hid (∀ W w9, Hid (Dt B kb raw im en q p g w9 s W) → Calls Tryz.prog 82 #[.pointer (some ⟨p, 0, none⟩)] W fun e w' => e = .returned (.int .u32 (v0 : Nat)) ∧ Dt B kb raw im en q p g w9 s1 w') := fun W w9 hW => by have h9 := tWordX hW.out; rw [e0] at h9; exact h9
 have K1 : Hid (∀ W w9, Hid (Dt B kb raw im en q p g w9 s1 W) → Calls Tryz.prog 88 #[.pointer (some ⟨kb, 0, none⟩), .int .i64 4] W fun e w' => e = .returned (.tuple #[]) ∧ Dt B kb raw im en q p g w9 s2 w') := fun W w9 hW => by have h9 := dzerosX hW.out (n := 4) (by decide); rw [e1] at h9; exact h9
 have b0 : v0 < 4294967296 := by have h9 := take_lt h.small 4 s; rw [e0] at h9; exact h9
 have K2 : Hid (∀ W w9, Hid (Dt B kb raw im en q p g w9 s2 W) → Calls Tryz.prog 104 #[.pointer (some ⟨kb, 0, none⟩), .int .i64 (N : Int), (.func (.func 105) #[.pointer (some ⟨kb, 0, none⟩)] #[])] W fun e w' => ∃ x, e = .returned (slE1 x) ∧ LaO w' x L ∧ Dt B kb raw im en q p g w9 s3 w') := fun W w9 hW => (listLaX (R := fun W u l => OwnG 83 2 stE W 0 (slE1 u) l) (fun _ _ _ _ h hz => h.rz hz (by decide) (by decide) (by decide)) (laneD q) (fun W t hW _ => dlaneX hW) hW.out.here (by omega)).mono (fun e w' ⟨v, xs, he, ho, ht, hd⟩ => by
  obtain ⟨a, c, hv, _⟩ := ho.form
  rw [e2] at ht hd
  exact ⟨⟨a, xs.length, c⟩, by rw [he, hv]; rfl, ⟨xs, by rw [← slE1_of hv]; exact ho.zero, ht⟩, hd.since hW.out.fr⟩)
 have HE : planD q N s = ((⟨v0, L⟩ : Sc), s3) := by simp only [planD, e0, e1, e2]
 clear h h1 hf1 hb1 hl1 hbx
 rw [HE]
 clear HE e0 e1 e2
 dsimp only
 have hwn : IntKind.i64.wrap (v0 : Int) = (v0 : Int) := by rw [IntKind.wrap_i64]; omega
 have c1 := HX1.out.c1
 have c59 := H0.out.c59
 go_enter Tryz.func103, Tryz.ntmps103
 go_wp2_with fail
 refine (K0.out _ _ H0).mono ?_
 rintro e w1 ⟨rfl, h9⟩
 have H1 : Hid (Dt B kb raw im en q p g (w.alloc (.cells ([.int .i64 0, .slice none 0 0] : List Value).toArray 87)) s1 w1) := h9
 have HX2 := Lib.hid (HXf.out _ _ _ HX1 h9).out
 clear h9 H0 K0 c1 c59 HX1
 obtain ⟨h2, hf2, hb2, hl2⟩ := H1.out.boxed (.cells ([.int .i64 (v0 : Nat), .slice none 0 0] : List Value).toArray 87)
 have hlt : w.heap.size < w1.heap.size := by
  have h9 := H1.out.fr.size
  simp at h9
  omega
 have hr2 := (hl2.block w.heap.size hlt).trans (HB.out _ _ H1.out)
 have HB2 : Hid (∀ W t, Dt B kb raw im en q p g (w1.alloc (.cells ([.int .i64 (v0 : Nat), .slice none 0 0] : List Value).toArray 87)) t W → W.heap[w.heap.size]? = some (.cells ([.int .i64 0, .slice none 0 0] : List Value).toArray 87 (0, 0)) ∧ W.heap[w1.heap.size]? = some (.cells ([.int .i64 (v0 : Nat), .slice none 0 0] : List Value).toArray 87 (0, 0))) := fun W t hW => ⟨hW.box hr2 (by decide) (by decide), hW.box hb2 (by decide) (by decide)⟩
 have HF2 : Hid (Fd B w0 (w1.alloc (.cells ([.int .i64 (v0 : Nat), .slice none 0 0] : List Value).toArray 87))) := HF.out.trans hf2
 have nm1 : ¬ w.heap.size = w1.heap.size := by omega
 have nm2 : ¬ w1.heap.size = w.heap.size := by omega
 have HLt := Lib.hid hlt
 replace H1 : Hid (Dt B kb raw im en q p g (w1.alloc (.cells ([.int .i64 (v0 : Nat), .slice none 0 0] : List Value).toArray 87)) s1 (w1.alloc (.cells ([.int .i64 (v0 : Nat), .slice none 0 0] : List Value).toArray 87))) := h2
 have HX3 : Hid (Bx2 kb b1 b2 N (w1.alloc (.cells ([.int .i64 (v0 : Nat), .slice none 0 0] : List Value).toArray 87))) := HX2.out.low hl2
 have c1 := HX3.out.c1
 clear HX2 h2 hf2 hb2 hl2 hr2 hlt HB HF
 go_wp2_with fail
 refine (K1.out _ _ H1).mono ?_
 rintro e w2 ⟨rfl, h9⟩
 have H2 : Hid (Dt B kb raw im en q p g (w1.alloc (.cells ([.int .i64 (v0 : Nat), .slice none 0 0] : List Value).toArray 87)) s2 w2) := h9
 have HX4 := Lib.hid (HXf.out _ _ _ HX3 h9).out
 have c1' := HX4.out.c1
 have c2 := HX4.out.c2
 clear h9 H1 K1 c1 HX3
 go_wp2_with fail
 refine (K2.out _ _ H2).mono ?_
 rintro e w3 ⟨x, rfl, hL, h9⟩
 have H3 : Hid (Dt B kb raw im en q p g (w1.alloc (.cells ([.int .i64 (v0 : Nat), .slice none 0 0] : List Value).toArray 87)) s3 w3) := h9
 have HL := Lib.hid hL
 obtain ⟨xa, xn, xc⟩ := x
 simp only [slE1]
 clear h9 hL H2 K2 c1' c2 HX4 HXf
 obtain ⟨hbx, hby⟩ := HB2.out _ _ H3.out
 have d0 := box_cell hbx 0
 have f0 := box_free hbx 0
 have l0 := box_cell hby 0
 have d1 := box_cell hbx 1
 have f1 := box_free hbx 1
 have l1 := box_cell hby 1
 have fl := box_free hby 1
 simp only [List.getElem?_cons_zero, List.getElem?_cons_succ] at d0 l0 d1 l1
 have HY : Hid (Db 87 w1.heap.size B kb raw im en q p g w0 s3 (w3.setCell ⟨w1.heap.size, 1, none⟩ (.slice xa xn xc))) := Db.set ⟨H3.out.since HF2.out, ⟨_, hby⟩, Nat.le_trans HS.out (Nat.le_of_lt HLt.out), by decide, by decide, by decide⟩ _ _
 have HZ : Hid ((w3.setCell ⟨w1.heap.size, 1, none⟩ (.slice xa xn xc)).heap[w.heap.size]? = some (.cells ([.int .i64 0, .slice none 0 0] : List Value).toArray 87 (0, 0))) := ((Keeps.setCell w3 w1.heap.size 1 _).block w.heap.size (Array.getElem?_eq_some_iff.1 hbx).1 nm1).trans hbx
 have HD : Hid (Db 87 w.heap.size B kb raw im en q p g w0 s3 (w3.setCell ⟨w1.heap.size, 1, none⟩ (.slice xa xn xc))) := ⟨HY.out.dt, ⟨_, HZ.out⟩, HS.out, by decide, by decide, by decide⟩
 have HTm : Hid (Tagd w3 87 w1.heap.size) := ⟨_, hby⟩
 have HTn : Hid (Tagd w3 87 w.heap.size) := ⟨_, hbx⟩
 clear hbx hby H3 HB2 HF2 HS HLt
 go_wp2_with fail
 generalize hW : World.setCell _ _ _ = W
 have hz : W.heap[w.heap.size]? = some (.cells (scE ((v0 : Int), (⟨xa, xn, xc⟩ : SlV))).toArray 87 (0, 0)) := by rw [← hW]; exact (box_set (box_set HZ.out _ _) _ _)
 have HLW : Hid (LaO W ⟨xa, xn, xc⟩ L) := by
  rw [← hW]
  exact LaO.set (LaO.set (LaO.set HL.out HTm.out) (Tagd.set HTn.out)) (Tagd.set (Tagd.set HTn.out))
 have HW : Hid (Dt B kb raw im en q p g w0 s3 W) := by
  refine Db.dt (t := 87) (n := w.heap.size) ?_
  rw [← hW]
  exact (Db.set (Db.set HD.out _ _) _ _)
 clear hW HD HZ HL HTm HTn d0 f0 l0 d1 f1 l1
 simp only [scE, slE1] at hz
 have g0 := box_cell hz 0
 have g1 := box_cell hz 1
 simp only [List.getElem?_cons_zero, List.getElem?_cons_succ] at g0 g1
 clear hz
 refine bodyPost_ret (v := .agg (scE ((v0 : Int), (⟨xa, xn, xc⟩ : SlV))).toArray) (by simp [results, Tryz.results103, go_sem, scE, slE1, g0, g1]) rfl ?_
 exact ⟨_, rfl, ⟨rfl, HLW.out⟩, HW.out⟩
end
end Go.Proofs.YtnifefmfhjfbnaaGreatDoor
/- Bundle: Read of a table's bytes (of Pages). Own work. -/
namespace Go.Proofs.YtnifefmfhjfbnaaGreatDoor
open Go.RowKit Go.Shelf
set_option linter.unusedVariables false
/-- the table of bytes -/
def numT (zs : List Nat) : Nat → Nat := fun i => Pl.num 8 (zs.drop (8 * i))
/-- the first k of them read -/
def setN (f : Nat → Nat) (k : Nat) : Nat → Nat := fun i => if i < k then f i else 0
theorem results_tab {fn : Func} {p q : Tmp} (h : fn.results = #[.cell p 77, .tmp q]) {tmps : Array Value} {w : World} {b : Nat} {g : Nat → Nat} {u : Value} (hp : tmps[p]?.getD undef = .pointer (some ⟨b, 0, none⟩)) (hq : tmps[q]?.getD undef = u) (hg : TabAt w b g) :
  (results fn tmps).run Tryz.prog w = .ok (.tuple #[.agg (tabV g), u]) w := by
 have hl := hg.load
 simp only [Instr.loadAt, Instr.sureAddr, Sem.run_bind, Sem.run_pure, Result.andThen] at hl
 simp [results, h, hp, hq, asAddr, Result.andThen, hl]
set_option maxRecDepth 4000 in
set_option maxHeartbeats 4000000 in
theorem pread_yes {w : World} {v : Value} {zs : List Nat} (hs : Sl w v zs) (hl : zs.length = 4096) : Calls Tryz.prog 128 #[v] w fun e w' => e = .returned (.tuple #[.agg (tabV (numT zs)), .bool true]) ∧ Below w.heap.size w w' := by
 have HS := Lib.hid hs
 obtain ⟨ao, cap, rfl, h1, h2, _⟩ := hs
 have hz := tab_zero.1
 rw [hl] at HS h1 ⊢
 have HL := Lib.hid hl
 clear hl
 obtain ⟨W0, hW0⟩ : ∃ W0, (w.alloc (.cells (tabV fun _ => 0) 77)).alloc (.cells (tabV fun _ => 0) 77) = W0 := ⟨_, rfl⟩
 have HP0 : Hid (TabAt W0 w.heap.size (fun _ => 0)) := hW0 ▸ (TabAt.new w _).alloc _
 have HQ0 : Hid (TabAt W0 (w.heap.size + 1) (fun _ => 0)) := show TabAt W0 (w.heap.size + 1) (fun _ => 0) by
  have := TabAt.new (w.alloc (.cells (tabV fun _ => 0) 77)) (fun _ => 0)
  rw [hW0] at this
  simpa using this
 have HB0 : Hid (Below w.heap.size w W0) := hW0 ▸ ((Below.refl _ _).alloc (Nat.le_refl _) _).alloc (by simp) _
 have HZ0 : Hid (W0.heap.size = w.heap.size + 2) := by show _ = _; rw [← hW0]; simp
 have HNR := Lib.hid (newReader_any (HS.out.below HB0.out) (by rw [HL.out]; omega))
 go_enter Tryz.func128, Tryz.ntmps128
 go_wp2_with fail
 clear hW0
 refine HNR.out.mono ?_
 rintro e w1 ⟨p, rfl, hp, hrd, hb1⟩
 have HP1 : Hid (TabAt w1 w.heap.size (fun _ => 0)) := HP0.out.below hb1 HP0.out.lt
 have HQ1 : Hid (TabAt w1 (w.heap.size + 1) (setN (numT zs) 0)) := (HQ0.out.below hb1 HQ0.out.lt).ext (fun i _ => by simp [setN])
 have HB1 : Hid (Below w.heap.size w w1) := HB0.out.trans (hb1.mono HB0.out.size)
 have HR1 := Lib.hid hrd
 have HPp : Hid (w.heap.size + 2 < p) := by have := HZ0.out; show _ < _; omega
 have HGp : Hid (w.heap.size + 2 ≤ W0.heap.size) := by have := HZ0.out; show _ ≤ _; omega
 clear hp hrd hb1 HNR HP0 HQ0 HB0 HZ0
 go_wp2_with fail
 go_loopw [13] (fun kv wr => ∃ k : Nat, k ≤ 512 ∧ kv = .int .i64 (k : Int) ∧ Hid (Rd wr p W0.heap.size zs (8 * k) 0) ∧ Hid (TabAt wr w.heap.size (fun _ => 0)) ∧ Hid (TabAt wr (w.heap.size + 1) (setN (numT zs) k)) ∧ Hid (Below w.heap.size w wr)) (fun kv _ => 512 - (intOf kv).toNat)
 case atStart => exact ⟨0, by omega, rfl, HR1, HP1, HQ1, HB1⟩
 case round =>
  clear HR1 HP1 HQ1 HB1
  obtain ⟨k, hk, rfl, HR, HP, HQ, HB⟩ := hrel
  by_cases hk5 : k < 512
  ·have jk : (k : Int) < 512 := by omega
   have hwk : IntKind.i64.wrap ((k : Int) + 1) = ((k + 1 : Nat) : Int) := by rw [IntKind.wrap_i64]; omega
   have HC := Lib.hid (ru64_yes HR.out (by rw [HL.out]; omega))
   go_wp2_with fail
   refine HC.out.mono ?_
   rintro e w2 ⟨rfl, hr2, hk2⟩
   have HP2 : Hid (TabAt w2 w.heap.size (fun _ => 0)) := (hk2.block _ HP.out.lt (fun e => by have := HPp.out; omega)).trans HP.out
   have hq2 : TabAt w2 (w.heap.size + 1) (setN (numT zs) k) := (hk2.block _ HQ.out.lt (fun e => by have := HPp.out; omega)).trans HQ.out
   have hc := hq2.cell (p := k) hk5
   have hf := hq2.free k
   have HQ3 : Hid (TabAt (w2.setCell ⟨w.heap.size + 1, k, none⟩ (.int .u64 ((Pl.num 8 (zs.drop (8 * k)) : Nat) : Int))) (w.heap.size + 1) (setN (numT zs) (k + 1))) := (hq2.set hk5 (Pl.num 8 (zs.drop (8 * k)))).ext (fun i _ => by
    simp only [setT, setN]
    by_cases e : i = k
    ·subst e
     rw [if_pos rfl, if_pos (by omega)]
     rfl
    ·rw [if_neg e]
     by_cases e2 : i < k
     ·rw [if_pos e2, if_pos (by omega)]
     ·rw [if_neg e2, if_neg (by omega)])
   have HP3 : Hid (TabAt (w2.setCell ⟨w.heap.size + 1, k, none⟩ (.int .u64 ((Pl.num 8 (zs.drop (8 * k)) : Nat) : Int))) w.heap.size (fun _ => 0)) := HP2.out.other (by omega)
   have HR3 : Hid (Rd (w2.setCell ⟨w.heap.size + 1, k, none⟩ (.int .u64 ((Pl.num 8 (zs.drop (8 * k)) : Nat) : Int))) p W0.heap.size zs (8 * (k + 1)) 0) := by
    have h5 := hr2.keeps (Keeps.setCell w2 (w.heap.size + 1) k (.int .u64 ((Pl.num 8 (zs.drop (8 * k)) : Nat) : Int))) (by have := HPp.out; omega) (by have := HGp.out; omega)
    rw [show 8 * (k + 1) = 8 * k + 8 by omega]
    exact h5
   have HB3 : Hid (Below w.heap.size w (w2.setCell ⟨w.heap.size + 1, k, none⟩ (.int .u64 ((Pl.num 8 (zs.drop (8 * k)) : Nat) : Int)))) := (HB.out.trans (hk2.below HB.out.size (fun i _ e => by have := HPp.out; omega))).setCell (p := ⟨w.heap.size + 1, k, none⟩) (by show w.heap.size ≤ w.heap.size + 1; omega) _
   clear hr2 hk2 hq2 HR HP HQ HB HC HP2
   generalize Pl.num 8 (zs.drop (8 * k)) = X at *
   generalize setN (numT zs) k k = Y at *
   go_wp2_with fail
   go_roundw
   case rel => exact ⟨k + 1, by omega, rfl, HR3, HP3, HQ3, HB3⟩
   case measure => simp [intOf]; omega
  ·have jk : ¬ (k : Int) < 512 := by omega
   have HQ2 : Hid (TabAt wr (w.heap.size + 1) (numT zs)) := HQ.out.ext (fun i hi => by simp only [setN]; rw [if_pos (by omega)])
   clear HQ
   go_wp2_with (first | (refine wpList_load_tab (b := w.heap.size + 1) (f := numT zs) rfl (.tmp 4) rfl rfl HQ2.out ?_) | (refine wpList_store_tab (b := w.heap.size) (g := numT zs) rfl (.tmp 2) (.tmp 21) rfl rfl rfl rfl HP.out ?_))
   exact bodyPost_ret (v := .tuple #[.agg (tabV (numT zs)), .bool true]) (results_tab rfl (by rfl) (by rfl) (HP.out.setRow (numT zs))) rfl ⟨rfl, HB.out.trans (below_setRow _ _ _ _ (Nat.le_refl _))⟩
set_option maxRecDepth 4000 in
set_option maxHeartbeats 4000000 in
theorem pread_no {w : World} {v : Value} {zs : List Nat} (hs : Sl w v zs) (hl : zs.length ≠ 4096) : Calls Tryz.prog 128 #[v] w fun e w' => e = .returned (.tuple #[.agg (tabV fun _ => 0), .bool false]) ∧ Below w.heap.size w w' := by
 obtain ⟨ao, cap, rfl, h1, h2, _⟩ := hs
 have hz := tab_zero.1
 obtain ⟨n, hn⟩ : ∃ n, zs.length = n := ⟨_, rfl⟩
 rw [hn] at h1 hl ⊢
 clear hn
 have jl : (n : Int) ≠ 4096 := by omega
 obtain ⟨W0, hW0⟩ : ∃ W0, (w.alloc (.cells (tabV fun _ => 0) 77)).alloc (.cells (tabV fun _ => 0) 77) = W0 := ⟨_, rfl⟩
 have HP0 : Hid (TabAt W0 w.heap.size (fun _ => 0)) := hW0 ▸ (TabAt.new w _).alloc _
 have HQ0 : Hid (TabAt W0 (w.heap.size + 1) (fun _ => 0)) := show TabAt W0 (w.heap.size + 1) (fun _ => 0) by
  have := TabAt.new (w.alloc (.cells (tabV fun _ => 0) 77)) (fun _ => 0)
  rw [hW0] at this
  simpa using this
 have HB0 : Hid (Below w.heap.size w W0) := hW0 ▸ ((Below.refl _ _).alloc (Nat.le_refl _) _).alloc (by simp) _
 go_enter Tryz.func128, Tryz.ntmps128
 go_upto_region 3 with fail
 clear hW0
 go_wp2_with (first | (refine wpList_load_tab (b := w.heap.size + 1) (f := fun _ => 0) rfl (.tmp 4) rfl rfl HQ0.out ?_) | (refine wpList_store_tab (b := w.heap.size) (g := fun _ => 0) rfl (.tmp 2) (.tmp 10) rfl rfl rfl rfl HP0.out ?_))
 exact bodyPost_ret (v := .tuple #[.agg (tabV fun _ => 0), .bool false]) (results_tab rfl (by rfl) (by rfl) (HP0.out.setRow (fun _ => 0))) rfl ⟨rfl, HB0.out.trans (below_setRow _ _ _ _ (Nat.le_refl _))⟩
end Go.Proofs.YtnifefmfhjfbnaaGreatDoor
