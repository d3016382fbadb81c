import Derived.Test.YtmfkggngjeolcaaGreatDoorPk13
import Derived.Test.YtmfkggngjeolcaaGreatDoorPk06
import Derived.Test.YtmfkggngjeolcaaGreatDoorPk07
import Derived.Lib.Hide
import Derived.Deep.DeepCutAuto
import Derived.Deep.CutBlock
import Derived.Test.YtmfkggngjeolcaaGreatDoorPk14
import Derived.Test.YtmfkggngjeolcaaGreatDoorPk15
import Derived.BigQuiet
import Derived.Test.YtmfkggngjeolcaaGreatDoorPk18
set_option linter.unusedSimpArgs false
set_option linter.unusedVariables false
set_option maxHeartbeats 4000000
set_option maxRecDepth 100000
namespace Go.Proofs.YtmfkggngjeolcaaGreatDoor
open Go.RowKit Go.Shelf
def numT (zs : List Nat) : Nat → Nat := fun i => Pl.num 8 (zs.drop (8 * i))
def setN (f : Nat → Nat) (k : Nat) : Nat → Nat := fun i => if i < k then f i else 0
theorem results_tab {fn : Func} {p q : Tmp} (h : fn.results = #[.cell p 80, .tmp q]) {tmps : Array Value} {w : World} {b : Nat} {g : Nat → Nat} {u : Value} (hp : tmps[p]?.getD undef = .pointer (some ⟨b, 0, none⟩)) (hq : tmps[q]?.getD undef = u) (hg : TabAt w b g) :
  (results fn tmps).run Tryz.prog w = .ok (.tuple #[.agg (tabV g), u]) w := by
 have hl := hg.load;simp only [Instr.loadAt, Instr.sureAddr, Sem.run_bind, Sem.run_pure, Result.andThen] at hl;simp [results, h, hp, hq, asAddr, Result.andThen, hl]
theorem pread_yes {w : World} {v : Value} {zs : List Nat} (hs : Sl w v zs) (hl : zs.length = 4096) : Calls Tryz.prog 180 #[v] w fun e w' => e = .returned (.tuple #[.agg (tabV (numT zs)), .bool true]) ∧ Below w.heap.size w w' := by
 have HS := Lib.hid hs;obtain ⟨ao, cap, rfl, h1, h2, _⟩ := hs;have hz := tab_zero.1;rw [hl] at HS h1 ⊢;have HL := Lib.hid hl;clear hl;obtain ⟨W0, hW0⟩ : ∃ W0, (w.alloc (.cells (tabV fun _ => 0) 80)).alloc (.cells (tabV fun _ => 0) 80) = W0 := ⟨_, rfl⟩
 have HP0 : Hid (TabAt W0 w.heap.size (fun _ => 0)) := hW0 ▸ (TabAt.new w _).alloc _;have HQ0 : Hid (TabAt W0 (w.heap.size + 1) (fun _ => 0)) := show TabAt W0 (w.heap.size + 1) (fun _ => 0) by
  have := TabAt.new (w.alloc (.cells (tabV fun _ => 0) 80)) (fun _ => 0);rw [hW0] at this
  simpa using this
 have HB0 : Hid (Below w.heap.size w W0) := hW0 ▸ ((Below.refl _ _).alloc (Nat.le_refl _) _).alloc (by simp) _;have HZ0 : Hid (W0.heap.size = w.heap.size + 2) := by show _ = _; rw [← hW0]; simp
 have HNR := Lib.hid (newReader_any (HS.out.below HB0.out) (by rw [HL.out]; omega));go_enter Tryz.func180, Tryz.ntmps180
 go_wp2_with fail
 clear hW0;refine HNR.out.mono ?_;rintro e w1 ⟨p, rfl, hp, hrd, hb1⟩;have HP1 : Hid (TabAt w1 w.heap.size (fun _ => 0)) := HP0.out.below hb1 HP0.out.lt;have HQ1 : Hid (TabAt w1 (w.heap.size + 1) (setN (numT zs) 0)) := (HQ0.out.below hb1 HQ0.out.lt).ext (fun i _ => by simp [setN]);have HB1 : Hid (Below w.heap.size w w1) := HB0.out.trans (hb1.mono HB0.out.size);have HR1 := Lib.hid hrd;have HPp : Hid (w.heap.size + 2 < p) := by have := HZ0.out; show _ < _; omega
 have HGp : Hid (w.heap.size + 2 ≤ W0.heap.size) := by have := HZ0.out; show _ ≤ _; omega
 clear hp hrd hb1 HNR HP0 HQ0 HB0 HZ0;go_wp2_with fail
 go_loopw [13] (fun kv wr => ∃ k : Nat, k ≤ 512 ∧ kv = .int .i64 (k : Int) ∧ Hid (Rd wr p W0.heap.size zs (8 * k) 0) ∧ Hid (TabAt wr w.heap.size (fun _ => 0)) ∧ Hid (TabAt wr (w.heap.size + 1) (setN (numT zs) k)) ∧ Hid (Below w.heap.size w wr)) (fun kv _ => 512 - (intOf kv).toNat)
 case atStart => exact ⟨0, by omega, rfl, HR1, HP1, HQ1, HB1⟩
 case round =>
  clear HR1 HP1 HQ1 HB1;obtain ⟨k, hk, rfl, HR, HP, HQ, HB⟩ := hrel
  by_cases hk5 : k < 512
  ·have jk : (k : Int) < 512 := by omega
   have hwk : IntKind.i64.wrap ((k : Int) + 1) = ((k + 1 : Nat) : Int) := by rw [IntKind.wrap_i64]; omega
   have HC := Lib.hid (ru64_yes HR.out (by rw [HL.out]; omega));go_wp2_with fail
   refine HC.out.mono ?_;rintro e w2 ⟨rfl, hr2, hk2⟩;have HP2 : Hid (TabAt w2 w.heap.size (fun _ => 0)) := (hk2.block _ HP.out.lt (fun e => by have := HPp.out; omega)).trans HP.out;have hq2 : TabAt w2 (w.heap.size + 1) (setN (numT zs) k) := (hk2.block _ HQ.out.lt (fun e => by have := HPp.out; omega)).trans HQ.out;have hc := hq2.cell (p := k) hk5;have hf := hq2.free k;have HQ3 : Hid (TabAt (w2.setCell ⟨w.heap.size + 1, k, none⟩ (.int .u64 ((Pl.num 8 (zs.drop (8 * k)) : Nat) : Int))) (w.heap.size + 1) (setN (numT zs) (k + 1))) := (hq2.set hk5 (Pl.num 8 (zs.drop (8 * k)))).ext (fun i _ => by
    simp only [setT, setN]
    by_cases e : i = k
    ·subst e;rw [if_pos rfl, if_pos (by omega)]
     rfl
    ·rw [if_neg e]
     by_cases e2 : i < k
     ·rw [if_pos e2, if_pos (by omega)]
     ·rw [if_neg e2, if_neg (by omega)])
   have HP3 : Hid (TabAt (w2.setCell ⟨w.heap.size + 1, k, none⟩ (.int .u64 ((Pl.num 8 (zs.drop (8 * k)) : Nat) : Int))) w.heap.size (fun _ => 0)) := HP2.out.other (by omega);have HR3 : Hid (Rd (w2.setCell ⟨w.heap.size + 1, k, none⟩ (.int .u64 ((Pl.num 8 (zs.drop (8 * k)) : Nat) : Int))) p W0.heap.size zs (8 * (k + 1)) 0) := by
    have h5 := hr2.keeps (Keeps.setCell w2 (w.heap.size + 1) k (.int .u64 ((Pl.num 8 (zs.drop (8 * k)) : Nat) : Int))) (by have := HPp.out; omega) (by have := HGp.out; omega);rw [show 8 * (k + 1) = 8 * k + 8 by omega];exact h5
   have HB3 : Hid (Below w.heap.size w (w2.setCell ⟨w.heap.size + 1, k, none⟩ (.int .u64 ((Pl.num 8 (zs.drop (8 * k)) : Nat) : Int)))) := (HB.out.trans (hk2.below HB.out.size (fun i _ e => by have := HPp.out; omega))).setCell (p := ⟨w.heap.size + 1, k, none⟩) (by show w.heap.size ≤ w.heap.size + 1; omega) _;clear hr2 hk2 hq2 HR HP HQ HB HC HP2;generalize Pl.num 8 (zs.drop (8 * k)) = X at *;generalize setN (numT zs) k k = Y at *;go_wp2_with fail
   go_roundw
   case rel => exact ⟨k + 1, by omega, rfl, HR3, HP3, HQ3, HB3⟩
   case measure => simp [intOf]; omega
  ·have jk : ¬ (k : Int) < 512 := by omega
   have HQ2 : Hid (TabAt wr (w.heap.size + 1) (numT zs)) := HQ.out.ext (fun i hi => by simp only [setN]; rw [if_pos (by omega)]);clear HQ;go_wp2_with (first | (refine wpList_load_tab (b := w.heap.size + 1) (f := numT zs) rfl (.tmp 4) rfl rfl HQ2.out ?_) | (refine wpList_store_tab (b := w.heap.size) (g := numT zs) rfl (.tmp 2) (.tmp 21) rfl rfl rfl rfl HP.out ?_))
   exact bodyPost_ret (v := .tuple #[.agg (tabV (numT zs)), .bool true]) (results_tab rfl (by rfl) (by rfl) (HP.out.setRow (numT zs))) rfl ⟨rfl, HB.out.trans (below_setRow _ _ _ _ (Nat.le_refl _))⟩
theorem pread_no {w : World} {v : Value} {zs : List Nat} (hs : Sl w v zs) (hl : zs.length ≠ 4096) : Calls Tryz.prog 180 #[v] w fun e w' => e = .returned (.tuple #[.agg (tabV fun _ => 0), .bool false]) ∧ Below w.heap.size w w' := by
 obtain ⟨ao, cap, rfl, h1, h2, _⟩ := hs;have hz := tab_zero.1;obtain ⟨n, hn⟩ : ∃ n, zs.length = n := ⟨_, rfl⟩
 rw [hn] at h1 hl ⊢;clear hn;have jl : (n : Int) ≠ 4096 := by omega
 obtain ⟨W0, hW0⟩ : ∃ W0, (w.alloc (.cells (tabV fun _ => 0) 80)).alloc (.cells (tabV fun _ => 0) 80) = W0 := ⟨_, rfl⟩
 have HP0 : Hid (TabAt W0 w.heap.size (fun _ => 0)) := hW0 ▸ (TabAt.new w _).alloc _;have HQ0 : Hid (TabAt W0 (w.heap.size + 1) (fun _ => 0)) := show TabAt W0 (w.heap.size + 1) (fun _ => 0) by
  have := TabAt.new (w.alloc (.cells (tabV fun _ => 0) 80)) (fun _ => 0);rw [hW0] at this
  simpa using this
 have HB0 : Hid (Below w.heap.size w W0) := hW0 ▸ ((Below.refl _ _).alloc (Nat.le_refl _) _).alloc (by simp) _;go_enter Tryz.func180, Tryz.ntmps180
 go_upto_region 3 with fail
 clear hW0;go_wp2_with (first | (refine wpList_load_tab (b := w.heap.size + 1) (f := fun _ => 0) rfl (.tmp 4) rfl rfl HQ0.out ?_) | (refine wpList_store_tab (b := w.heap.size) (g := fun _ => 0) rfl (.tmp 2) (.tmp 10) rfl rfl rfl rfl HP0.out ?_))
 exact bodyPost_ret (v := .tuple #[.agg (tabV fun _ => 0), .bool false]) (results_tab rfl (by rfl) (by rfl) (HP0.out.setRow (fun _ => 0))) rfl ⟨rfl, HB0.out.trans (below_setRow _ _ _ _ (Nat.le_refl _))⟩
end Go.Proofs.YtmfkggngjeolcaaGreatDoor
namespace Go.Proofs.YtmfkggngjeolcaaGreatDoor
open Go.RowKit Bn Dc
theorem tb_ok : EncOk 512 tbE := ⟨fun f => by simp [tbE, tabV_size], fun f u hu => by
 have h9 := tabV_one f;rw [Array.all_eq_true_iff_forall_mem] at h9;exact h9 u (by simpa [tbE] using hu)⟩
theorem info_tab : (Tryz.prog.info? 80).map (fun i => (i.zero, i.size, i.bytes)) = some (some (.agg (tabV fun _ => 0)), 512, 4096) := by kernel_rfl
theorem wpList_tsl {ops : Array Oper} {rest : List Oper} {o : Oper} {a : Act} {w : World} {Q : Exit → Act → World → Prop} (hgd : o.guard = none) (parts : Array (Nat × Operand)) (ho : o.op = .buildSlice 31 1 parts) (vals : Array (Nat × Value)) (hv : (parts.map fun (i, x) => (i, a.eval x)) = vals) {q : Array Value} (hq : q.size = 512) {hvq : vals = #[(0, .agg q)]} (h : wpList Tryz.prog ops Q rest (a.put o.dst (.slice (some ⟨w.heap.size, 0, none⟩) 1 1)) (w.alloc (.cells q 80))) : wpList Tryz.prog ops Q (o :: rest) a w :=
 wpList_plain hgd fun K hK => by
  unfold Oper.wp execOp;simp only [ho, Sem.run_bind, Sem.run_pure, Result.andThen_ok, hv, hvq, run_slice1 w 31 80 512 4096 _ Tryz.underlying31 info_tab (by decide) (by decide) (.agg q) hq];exact hK _ _ h
namespace Dc
def tabD (q : Pt) (s : D) : (Nat → Nat) × D := (if (bytesD q 4096 s).1.length = 4096 then numT (bytesD q 4096 s).1 else fun _ => 0, (bytesD q 4096 s).2)
end Dc
section
variable {B kb : Nat} {raw : Value} {im en : List Value} {q : Pt} {p g : Nat} {s : D} {w : World}
theorem listTbX {α : Type} {R : World → (Nat → Nat) → α → Prop} (hR : ∀ W W' x y, R W x y → Rz 80 W W' → R W' x y) (one : D → α × D) (hone : ∀ W t, Dt B kb raw im en q p g W t W → Fd B w W → Calls Tryz.prog 162 #[.pointer (some ⟨kb, 0, none⟩)] W fun e w' => ∃ x, e = .returned (.agg (tbE x).toArray) ∧ R w' x (one t).1 ∧ Dt B kb raw im en q p g W (one t).2 w') (h : Dt B kb raw im en q p g w s w) {n : Nat} (hn : n ≤ 1048576) :
  Calls Tryz.prog 160 #[.pointer (some ⟨kb, 0, none⟩), .int .i64 (n : Int), (.func (.func 162) #[.pointer (some ⟨kb, 0, none⟩)] #[])] w fun e w' => ∃ v xs, e = .returned v ∧ OwnG 80 512 tbE w' w.heap.size v xs ∧ T2 (R w') xs (listD one n s).1 ∧ Dt B kb raw im en q p g w (listD one n s).2 w' := by
 have H0 : Hid (Lst 80 512 tbE R one B kb raw im en q p g w s (.slice none 0 0) 0 w) := ⟨⟨[], OwnG.nil _ _ _ _ _, rfl, .nil⟩, h⟩
 have HOne : Hid (∀ W t, Dt B kb raw im en q p g W t W → Fd B w W → Calls Tryz.prog 162 #[.pointer (some ⟨kb, 0, none⟩)] W fun e w' => ∃ x, e = .returned (.agg (tbE x).toArray) ∧ R w' x (one t).1 ∧ Dt B kb raw im en q p g W (one t).2 w') := hone;have HR : Hid (∀ W W' x y, R W x y → Rz 80 W W' → R W' x y) := hR;have HGo : Hid (∀ W s', Dt B kb raw im en q p g w s' W → Calls Tryz.prog 173 #[.pointer (some ⟨kb, 0, none⟩)] W fun e w' => e = .returned (.bool (goD s')) ∧ w' = W) := fun W s' hW => dgoesX hW;have HLt : Hid (kb < w.heap.size) := h.lt;clear hone hR h;go_enter Tryz.func160, Tryz.ntmps160
 go_wp2_with fail
 go_loopw [7] (fun v wr => ∃ (i : Nat) (ao : Option Addr) (cap : Nat), i ≤ n ∧ v = .slice ao i cap ∧ Hid (Lst 80 512 tbE R one B kb raw im en q p g w s (.slice ao i cap) i wr)) (fun v _ => n - lenOf v)
 case atStart => exact ⟨0, none, 0, Nat.zero_le _, rfl, H0⟩
 case round =>
  clear H0;obtain ⟨i, ao, cap, hi, rfl, HI⟩ := hrel
  by_cases hin : i < n
  ·have ji : (i : Int) < (n : Int) := by omega
   have HG1 := Lib.hid (HGo.out _ _ HI.out.dt)
   by_cases hg : goD (listD one i s).2 = true
   ·rw [hg] at HG1;have HO1 := Lib.hid (HOne.out _ _ HI.out.dt.here HI.out.dt.fr);clear HOne HGo;go_wp2_with fail
    refine HG1.out.mono ?_;rintro e w1 ⟨rfl, h1⟩;subst h1;clear HG1;go_wp2_with fail
    refine HO1.out.mono ?_;rintro e w2 ⟨x, rfl, hx, h2⟩;obtain ⟨xs, hxo, hxl, hxt⟩ := HI.out.ex;have hf2 := h2.fr;have HO2 : Hid (OwnG 80 512 tbE w2 w.heap.size (.slice ao i cap) xs) := hxo.fd hf2 (by decide) (by decide);have HT2 : Hid (T2 (R w2) xs (listD one i s).1) := hxt.imp (fun x y h => HR.out _ _ _ _ h (hf2.rz _));have HX2 : Hid (R w2 x (one (listD one i s).2).1) := hx;have HD2 : Hid (Dt B kb raw im en q p g w (one (listD one i s).2).2 w2) := h2.since HI.out.dt.fr;have HN : Hid (listD one (i + 1) s = ((listD one i s).1 ++ [(one (listD one i s).2).1], (one (listD one i s).2).2)) := listD_next one i s hg;have HXl := Lib.hid hxl;clear hx h2 hf2 hxo hxl hxt HO1 HI;obtain ⟨Tq, hTq⟩ : ∃ T, (tbE x).toArray = T := ⟨_, rfl⟩
    have HTs : Hid (Tq.size = 512) := by show Tq.size = 512; rw [← hTq]; simp [tbE, tabV_size]
    have HTq : Hid (Tq = (tbE x).toArray) := hTq.symm;rw [hTq];clear hTq;obtain ⟨W, hW⟩ : ∃ W, W = w2.alloc (.cells Tq 80) := ⟨_, rfl⟩
    have hlow : Below w2.heap.size w2 W := by rw [hW]; exact (Below.refl _ _).alloc (Nat.le_refl _) _
    have HG3 : Hid (W.heap[w2.heap.size]? = some (.cells (tbE x).toArray 80 (0, 0))) := by rw [hW, ← HTq.out]; exact heap_alloc_new w2 _
    have HO3 : Hid (OwnG 80 512 tbE W w.heap.size (.slice ao i cap) xs) := HO2.out.below hlow;have HT3 : Hid (T2 (R W) xs (listD one i s).1) := HT2.out.imp (fun x y h => HR.out _ _ _ _ h (Rz.of_below hlow));have HX3 : Hid (R W x (one (listD one i s).2).1) := HR.out _ _ _ _ HX2.out (Rz.of_below hlow);have HD3 : Hid (Dt B kb raw im en q p g w (one (listD one i s).2).2 W) := HD2.out.below hlow;have HS3 : Hid (w.heap.size ≤ W.heap.size) := Nat.le_trans HD2.out.fr.size hlow.size;subst hW;clear hlow HO2 HT2 HX2 HD2 HTq;go_wp2_with (first | (refine wpList_tsl rfl #[(0, .tmp 18)] rfl #[(0, .agg Tq)] (by simp [Act.eval, Act.put]) HTs.out (hvq := rfl) ?_) | (at_builtin; refine wpList_appG (enc := tbE) (x := x) (xs := xs) rfl 31 80 (.tmp 16) (.tmp 19) rfl 512 4096 _ Tryz.underlying31 info_tab (by decide) (tabV_size _) (by decide) tb_ok (by rfl) HO3.out (by rfl) HG3.out (by rw [HXl.out]; omega) HS3.out ?_))
    intro va vc w4 HO4 HG4;have HI4 : Hid (Lst 80 512 tbE R one B kb raw im en q p g w s (.slice va (i + 1) vc) (i + 1) w4) := by
     obtain ⟨_, _, _, _, _, hrow⟩ := HO3.out.form;have hg9 := HG4.out;refine ⟨⟨xs ++ [x], ?_, by rw [List.length_append, HXl.out]; rfl, ?_⟩, ?_⟩
     ·have := HO4.out;rw [HXl.out] at this;exact this
     ·rw [HN.out];exact (HT3.out.snoc HX3.out).imp (fun x y h => HR.out _ _ _ _ h (Rz.grown hg9 (fun k e => (hrow k e).2.2)))
     ·rw [HN.out];exact HD3.out.grown hg9 (fun k e => ⟨(hrow k e).1, (hrow k e).2.2⟩) (by decide) (by decide) (by decide)
    rw [HXl.out];clear HO4 HG4 HO3 HT3 HX3 HD3 HG3 HN HXl;go_wp2_with fail
    go_roundw
    case rel => exact ⟨i + 1, va, vc, by omega, rfl, HI4⟩
    case measure => simp [lenOf]; omega
   ·rw [show goD (listD one i s).2 = false by simpa using hg] at HG1;go_wp2_with fail
    refine HG1.out.mono ?_;rintro e w1 ⟨rfl, h1⟩;subst h1;clear HG1;go_wp2_with fail
    go_ret
    rw [listD_stop one i s hg n hi];obtain ⟨xs, hxo, hxl, hxt⟩ := HI.out.ex
    first | exact ⟨_, xs, rfl, hxo, hxt, HI.out.dt⟩ | exact ⟨_, rfl, xs, hxo, hxt, HI.out.dt⟩
  ·obtain rfl : i = n := by omega
   have ji : ¬ (i : Int) < (i : Int) := by omega
   go_wp2_with fail
   go_ret
   obtain ⟨xs, hxo, hxl, hxt⟩ := HI.out.ex
   first | exact ⟨_, xs, rfl, hxo, hxt, HI.out.dt⟩ | exact ⟨_, rfl, xs, hxo, hxt, HI.out.dt⟩
end
section
variable {B kb : Nat} {raw : Value} {im en : List Value} {q : Pt} {p g : Nat} {w0 : World} {s : D} {w w' : World}
theorem Dt.rowSet {t : TypeId} {n : Nat} (h : Db t n B kb raw im en q p g w0 s w) (c : Array Value) : Dt B kb raw im en q p g w0 s (w.setRow n c) := by
 have hb : ∀ k, k ≠ n → (w.setRow n c).heap[k]? = w.heap[k]? := fun k hk => by
  simp [World.setRow, Array.getElem?_modify, hk.symm]
 have hk : Keeps (fun k => k = n) w (w.setRow n c) := ⟨rfl, rfl, rfl, by simp [World.setRow], fun k _ e => hb k e⟩
 have nb : n ≠ kb := fun e => h.h1 (tag_same h.tg ⟨_, e ▸ h.dt.blk⟩);have np : p ≠ n := fun e => h.h2 (tag_same h.tg ⟨_, e ▸ h.dt.rd.1⟩);have ng : g ≠ n := fun e => h.h3 (tag_same h.tg ⟨_, e ▸ h.dt.rd.2.1⟩);refine ⟨(hk.block kb h.dt.lt (fun e => nb e.symm)).trans h.dt.blk, h.dt.him, h.dt.hen, h.dt.hpt, h.dt.hfi, h.dt.hlen, h.dt.rd.keeps hk np ng, h.dt.hB, ?_⟩;have hf := h.dt.fr;have hn := h.hn;exact ⟨hk.os.trans hf.os, hk.tape.trans hf.tape, hk.output.trans hf.output, Nat.le_trans hf.size hk.size, fun j hj hq => (hk.block j (Nat.lt_of_lt_of_le hj hf.size) (fun e => by omega)).trans (hf.block j hj hq)⟩
theorem preadX {v : Value} {zs : List Nat} (hs : Sl w v zs) : Calls Tryz.prog 180 #[v] w fun e w' => ∃ b, e = .returned (.tuple #[.agg (tabV (if zs.length = 4096 then numT zs else fun _ => 0)), .bool b]) ∧ Below w.heap.size w w' := by
 by_cases hl : zs.length = 4096
 ·rw [if_pos hl];exact (pread_yes hs hl).mono (fun e w' h => ⟨_, h⟩)
 ·rw [if_neg hl];exact (pread_no hs hl).mono (fun e w' h => ⟨_, h⟩)
theorem dtableX (h : Dt B kb raw im en q p g w0 s w) : Calls Tryz.prog 162 #[.pointer (some ⟨kb, 0, none⟩)] w fun e w' => ∃ x, e = .returned (.agg (tbE x).toArray) ∧ x = (tabD q s).1 ∧ Dt B kb raw im en q p g w0 (tabD q s).2 w' := by
 obtain ⟨h1, hf1, hb1, hl1⟩ := h.boxed (.cells (tabV fun _ => 0) 80);have hz := tab_zero.1;have HF := Lib.hid hf1;have HS : Hid (w0.heap.size ≤ w.heap.size) := h.fr.size;have HSz : Hid (∀ W t, Dt B kb raw im en q p g (w.alloc (.cells (tabV fun _ => 0) 80)) t W → w.heap.size < W.heap.size) := fun W t hW => by
  have h9 := hW.fr.size;simp at h9
  omega
 have HB : Hid (∀ W t, Dt B kb raw im en q p g (w.alloc (.cells (tabV fun _ => 0) 80)) t W → TabAt W w.heap.size (fun _ => 0)) := fun W t hW => hW.box hb1 (by decide) (by decide);have c59 := h1.c59;have K0 := Lib.hid (tBytesX h1 (n := 4096) (by decide));have K1 : Hid (∀ W v t, Bv W v (bytesD q 4096 s).1 → Dt B kb raw im en q p g (w.alloc (.cells (tabV fun _ => 0) 80)) t W → Calls Tryz.prog 180 #[v] W fun e w' => ∃ b, e = .returned (.tuple #[.agg (tabV (tabD q s).1), .bool b]) ∧ Dt B kb raw im en q p g (w.alloc (.cells (tabV fun _ => 0) 80)) t w') := fun W v t hv hd => (preadX hv.sl).mono (fun e w' ⟨b, he, hb⟩ => ⟨b, he, hd.below hb⟩);have HN : Hid ((tabD q s).2 = (bytesD q 4096 s).2) := rfl;clear h h1 hf1 hb1 hl1;obtain ⟨F, hF⟩ : ∃ F, (tabD q s).1 = F := ⟨_, rfl⟩
 rw [HN.out, hF];rw [hF] at K1;clear hF HN;generalize (bytesD q 4096 s).1 = bs at *;generalize (bytesD q 4096 s).2 = t at *;go_enter Tryz.func162, Tryz.ntmps162
 go_wp2_with fail
 refine K0.out.mono ?_;rintro e w1 ⟨v, rfl, hv, h1⟩;have HC := Lib.hid (K1.out _ _ _ hv h1);clear hv h1 K0 K1 c59;go_wp2_with fail
 refine HC.out.mono ?_;rintro e w2 ⟨b, rfl, h2⟩;have hlt := HSz.out _ _ h2;have hd3 := (h2.since HF.out).below ((Below.refl _ _).alloc (Nat.le_refl _) (.cells (tabV fun _ => 0) 80));have HQ0 : Hid (TabAt (w2.alloc (.cells (tabV fun _ => 0) 80)) w2.heap.size (fun _ => 0)) := TabAt.new _ _;have HP3 : Hid (TabAt ((w2.alloc (.cells (tabV fun _ => 0) 80)).setRow w2.heap.size (tabV F)) w.heap.size (fun _ => 0)) := ((HB.out _ _ h2).alloc _).row_other (by omega) _;have HQ3 : Hid (TabAt ((w2.alloc (.cells (tabV fun _ => 0) 80)).setRow w2.heap.size (tabV F)) w2.heap.size F) := HQ0.out.setRow F;have HD3 : Hid (Db 80 w.heap.size B kb raw im en q p g w0 t ((w2.alloc (.cells (tabV fun _ => 0) 80)).setRow w2.heap.size (tabV F))) := ⟨Dt.rowSet (t := 80) ⟨hd3, ⟨_, HQ0.out⟩, Nat.le_trans HS.out (Nat.le_of_lt hlt), by decide, by decide, by decide⟩ _, ⟨_, HP3.out⟩, HS.out, by decide, by decide, by decide⟩
 clear h2 hd3 HC HB HF HS HSz;go_wp2_with (first | (refine wpList_load_tab (b := w2.heap.size) (f := F) rfl (.tmp 3) rfl rfl HQ3.out ?_) | (refine wpList_store_tab (b := w2.heap.size) (g := F) rfl (.tmp 3) (.tmp 12) rfl rfl rfl rfl HQ0.out ?_) | (refine wpList_store_tab (b := w.heap.size) (g := F) rfl (.tmp 2) (.tmp 14) rfl rfl rfl rfl HP3.out ?_))
 exact bodyPost_ret (v := .agg (tabV F)) (ret_tab rfl (by rfl) (HP3.out.setRow F)) rfl ⟨F, rfl, rfl, Dt.rowSet HD3.out _⟩
end
end Go.Proofs.YtmfkggngjeolcaaGreatDoor
namespace Go.Proofs.YtmfkggngjeolcaaGreatDoor
open Go.RowKit Bn Dc
section
variable {B kb : Nat} {raw : Value} {im en : List Value} {q : Pt} {p g : Nat} {w0 : World} {s : D} {w w' : World}
theorem Dt.cIm (h : Dt B kb raw im en q p g w0 s w) {i : Nat} (hi : i < 12) : ∃ u, w.cell? ⟨kb, 1 + i, none⟩ = some u := by
 refine ⟨im[i]'(by rw [h.him]; exact hi), (h.cell _).trans ((rdC_im h.him hi).trans ?_)⟩;rw [List.getElem?_eq_getElem (by rw [h.him]; exact hi)]
theorem Dt.fdSet (h : Dt B kb raw im en q p g w0 s w) (i : Nat) (u : Value) : Fd B w (w.setCell ⟨kb, i, none⟩ u) := Keeps.mono (Keeps.setCell w kb i u) (fun k _ e => by subst e; exact ⟨h.hB.1, .inl ⟨_, h.blk⟩⟩)
def SecP (t : TypeId) {β : Type} (k : Nat) (enc : β → List Value) (i : Nat) (B kb : Nat) (raw : Value) (im en : List Value) (q : Pt) (p g : Nat) (w0 : World) (xs : List β) (s' : D) (w' : World) : Prop := ∃ v, OwnG t k enc w' B v xs ∧ Dt B kb raw (im.set i v) en q p g w0 s' w'
theorem rdSubsX (h : Dt B kb raw im en q p g w0 s w) : Calls Tryz.prog 115 #[.pointer (some ⟨kb, 0, none⟩)] w fun e w' => e = .returned (.tuple #[]) ∧ SecP 66 6 tnE 3 B kb raw im en q p g w0 (listD (tenD q) (manyD q s).1 (manyD q s).2).1 (listD (tenD q) (manyD q s).1 (manyD q s).2).2 w' := by
 have hm := many_le h;have HC := Lib.hid (dmanyX h);generalize (manyD q s).1 = n at *;generalize (manyD q s).2 = t at *;have HL : Hid (∀ W, Dt B kb raw im en q p g w0 t W → Calls Tryz.prog 145 #[.pointer (some ⟨kb, 0, none⟩), .int .i64 (n : Int), (.func (.func 147) #[.pointer (some ⟨kb, 0, none⟩)] #[])] W fun e w' => ∃ x, e = .returned (slE1 x) ∧ OwnG 66 6 tnE w' B (slE1 x) (listD (tenD q) n t).1 ∧ Dt B kb raw im en q p g w0 (listD (tenD q) n t).2 w') := fun W hW => (listTnX (R := fun _ x y => x = y) (fun _ _ _ _ h _ => h) (tenD q) (fun W t hW _ => (tenX hW).mono (fun e w' h => ⟨_, h.1, rfl, h.2⟩)) hW.here (by omega)).mono (fun e w' ⟨v, xs, he, ho, ht, hd⟩ => by
  obtain ⟨a, c, hv, _⟩ := ho.form;exact ⟨⟨a, xs.length, c⟩, by rw [he, hv]; rfl, by rw [← slE1_of hv, ← ht.eq]; exact ho.low hW.le, hd.since hW.fr⟩)
 clear h;generalize (listD (tenD q) n t).1 = ys at *;generalize (listD (tenD q) n t).2 = t2 at *;go_enter Tryz.func115, Tryz.ntmps115
 go_wp2_with fail
 refine HC.out.mono ?_;rintro e w1 ⟨rfl, h1⟩;have HL1 := Lib.hid (HL.out _ h1);clear h1 HC HL;go_wp2_with fail
 refine HL1.out.mono ?_;rintro e w2 ⟨⟨xa, xn, xc⟩, rfl, ho, h2⟩;obtain ⟨u, hu⟩ := h2.cIm (i := 3) (by decide);have fu := h2.free 4;have H3 : Hid (SecP 66 6 tnE 3 B kb raw im en q p g w0 ys t2 (w2.setCell ⟨kb, 1 + 3, none⟩ (slE1 ⟨xa, xn, xc⟩))) := ⟨_, ho.fd (h2.fdSet _ _) (by decide) (by decide), h2.setIm (by decide) _⟩
 simp only [slE1, show (1 + 3 : Nat) = 4 from rfl] at H3 hu ⊢;clear ho h2 HL1;go_wp2_with fail
 go_end0
 exact ⟨rfl, H3.out⟩
theorem rdRegsX (h : Dt B kb raw im en q p g w0 s w) : Calls Tryz.prog 117 #[.pointer (some ⟨kb, 0, none⟩)] w fun e w' => e = .returned (.tuple #[]) ∧ SecP 70 4 gdE 5 B kb raw im en q p g w0 (listD (gdD q) (manyD q s).1 (manyD q s).2).1 (listD (gdD q) (manyD q s).1 (manyD q s).2).2 w' := by
 have hm := many_le h;have HC := Lib.hid (dmanyX h);generalize (manyD q s).1 = n at *;generalize (manyD q s).2 = t at *;have HL : Hid (∀ W, Dt B kb raw im en q p g w0 t W → Calls Tryz.prog 150 #[.pointer (some ⟨kb, 0, none⟩), .int .i64 (n : Int), (.func (.func 151) #[.pointer (some ⟨kb, 0, none⟩)] #[])] W fun e w' => ∃ x, e = .returned (slE1 x) ∧ OwnG 70 4 gdE w' B (slE1 x) (listD (gdD q) n t).1 ∧ Dt B kb raw im en q p g w0 (listD (gdD q) n t).2 w') := fun W hW => (listGdX (R := fun _ x y => x = y) (fun _ _ _ _ h _ => h) (gdD q) (fun W t hW _ => (gdX hW).mono (fun e w' h => ⟨_, h.1, rfl, h.2⟩)) hW.here (by omega)).mono (fun e w' ⟨v, xs, he, ho, ht, hd⟩ => by
  obtain ⟨a, c, hv, _⟩ := ho.form;exact ⟨⟨a, xs.length, c⟩, by rw [he, hv]; rfl, by rw [← slE1_of hv, ← ht.eq]; exact ho.low hW.le, hd.since hW.fr⟩)
 clear h;generalize (listD (gdD q) n t).1 = ys at *;generalize (listD (gdD q) n t).2 = t2 at *;go_enter Tryz.func117, Tryz.ntmps117
 go_wp2_with fail
 refine HC.out.mono ?_;rintro e w1 ⟨rfl, h1⟩;have HL1 := Lib.hid (HL.out _ h1);clear h1 HC HL;go_wp2_with fail
 refine HL1.out.mono ?_;rintro e w2 ⟨⟨xa, xn, xc⟩, rfl, ho, h2⟩;obtain ⟨u, hu⟩ := h2.cIm (i := 5) (by decide);have fu := h2.free 6;have H3 : Hid (SecP 70 4 gdE 5 B kb raw im en q p g w0 ys t2 (w2.setCell ⟨kb, 1 + 5, none⟩ (slE1 ⟨xa, xn, xc⟩))) := ⟨_, ho.fd (h2.fdSet _ _) (by decide) (by decide), h2.setIm (by decide) _⟩
 simp only [slE1, show (1 + 5 : Nat) = 6 from rfl] at H3 hu ⊢;clear ho h2 HL1;go_wp2_with fail
 go_end0
 exact ⟨rfl, H3.out⟩
theorem rdChsX (h : Dt B kb raw im en q p g w0 s w) : Calls Tryz.prog 118 #[.pointer (some ⟨kb, 0, none⟩)] w fun e w' => e = .returned (.tuple #[]) ∧ SecP 72 5 lkE 6 B kb raw im en q p g w0 (listD (chD q) (manyD q s).1 (manyD q s).2).1 (listD (chD q) (manyD q s).1 (manyD q s).2).2 w' := by
 have hm := many_le h;have HC := Lib.hid (dmanyX h);generalize (manyD q s).1 = n at *;generalize (manyD q s).2 = t at *;have HL : Hid (∀ W, Dt B kb raw im en q p g w0 t W → Calls Tryz.prog 152 #[.pointer (some ⟨kb, 0, none⟩), .int .i64 (n : Int), (.func (.func 153) #[.pointer (some ⟨kb, 0, none⟩)] #[])] W fun e w' => ∃ x, e = .returned (slE1 x) ∧ OwnG 72 5 lkE w' B (slE1 x) (listD (chD q) n t).1 ∧ Dt B kb raw im en q p g w0 (listD (chD q) n t).2 w') := fun W hW => (listChX (R := fun _ x y => x = y) (fun _ _ _ _ h _ => h) (chD q) (fun W t hW _ => (chX hW).mono (fun e w' h => ⟨_, h.1, rfl, h.2⟩)) hW.here (by omega)).mono (fun e w' ⟨v, xs, he, ho, ht, hd⟩ => by
  obtain ⟨a, c, hv, _⟩ := ho.form;exact ⟨⟨a, xs.length, c⟩, by rw [he, hv]; rfl, by rw [← slE1_of hv, ← ht.eq]; exact ho.low hW.le, hd.since hW.fr⟩)
 clear h;generalize (listD (chD q) n t).1 = ys at *;generalize (listD (chD q) n t).2 = t2 at *;go_enter Tryz.func118, Tryz.ntmps118
 go_wp2_with fail
 refine HC.out.mono ?_;rintro e w1 ⟨rfl, h1⟩;have HL1 := Lib.hid (HL.out _ h1);clear h1 HC HL;go_wp2_with fail
 refine HL1.out.mono ?_;rintro e w2 ⟨⟨xa, xn, xc⟩, rfl, ho, h2⟩;obtain ⟨u, hu⟩ := h2.cIm (i := 6) (by decide);have fu := h2.free 7;have H3 : Hid (SecP 72 5 lkE 6 B kb raw im en q p g w0 ys t2 (w2.setCell ⟨kb, 1 + 6, none⟩ (slE1 ⟨xa, xn, xc⟩))) := ⟨_, ho.fd (h2.fdSet _ _) (by decide) (by decide), h2.setIm (by decide) _⟩
 simp only [slE1, show (1 + 6 : Nat) = 7 from rfl] at H3 hu ⊢;clear ho h2 HL1;go_wp2_with fail
 go_end0
 exact ⟨rfl, H3.out⟩
theorem rdIrqsX (h : Dt B kb raw im en q p g w0 s w) : Calls Tryz.prog 119 #[.pointer (some ⟨kb, 0, none⟩)] w fun e w' => e = .returned (.tuple #[]) ∧ SecP 72 5 lkE 7 B kb raw im en q p g w0 (listD (iqD q) (manyD q s).1 (manyD q s).2).1 (listD (iqD q) (manyD q s).1 (manyD q s).2).2 w' := by
 have hm := many_le h;have HC := Lib.hid (dmanyX h);generalize (manyD q s).1 = n at *;generalize (manyD q s).2 = t at *;have HL : Hid (∀ W, Dt B kb raw im en q p g w0 t W → Calls Tryz.prog 152 #[.pointer (some ⟨kb, 0, none⟩), .int .i64 (n : Int), (.func (.func 154) #[.pointer (some ⟨kb, 0, none⟩)] #[])] W fun e w' => ∃ x, e = .returned (slE1 x) ∧ OwnG 72 5 lkE w' B (slE1 x) (listD (iqD q) n t).1 ∧ Dt B kb raw im en q p g w0 (listD (iqD q) n t).2 w') := fun W hW => (listIqX (R := fun _ x y => x = y) (fun _ _ _ _ h _ => h) (iqD q) (fun W t hW _ => (iqX hW).mono (fun e w' h => ⟨_, h.1, rfl, h.2⟩)) hW.here (by omega)).mono (fun e w' ⟨v, xs, he, ho, ht, hd⟩ => by
  obtain ⟨a, c, hv, _⟩ := ho.form;exact ⟨⟨a, xs.length, c⟩, by rw [he, hv]; rfl, by rw [← slE1_of hv, ← ht.eq]; exact ho.low hW.le, hd.since hW.fr⟩)
 clear h;generalize (listD (iqD q) n t).1 = ys at *;generalize (listD (iqD q) n t).2 = t2 at *;go_enter Tryz.func119, Tryz.ntmps119
 go_wp2_with fail
 refine HC.out.mono ?_;rintro e w1 ⟨rfl, h1⟩;have HL1 := Lib.hid (HL.out _ h1);clear h1 HC HL;go_wp2_with fail
 refine HL1.out.mono ?_;rintro e w2 ⟨⟨xa, xn, xc⟩, rfl, ho, h2⟩;obtain ⟨u, hu⟩ := h2.cIm (i := 7) (by decide);have fu := h2.free 8;have H3 : Hid (SecP 72 5 lkE 7 B kb raw im en q p g w0 ys t2 (w2.setCell ⟨kb, 1 + 7, none⟩ (slE1 ⟨xa, xn, xc⟩))) := ⟨_, ho.fd (h2.fdSet _ _) (by decide) (by decide), h2.setIm (by decide) _⟩
 simp only [slE1, show (1 + 7 : Nat) = 8 from rfl] at H3 hu ⊢;clear ho h2 HL1;go_wp2_with fail
 go_end0
 exact ⟨rfl, H3.out⟩
end
end Go.Proofs.YtmfkggngjeolcaaGreatDoor
