import Derived.Test.YtmfkggngjeolcaaGreatDoorPk22
set_option linter.unusedSimpArgs false
set_option linter.unusedVariables false
set_option maxHeartbeats 8000000
set_option maxRecDepth 100000
namespace Go.Proofs.YtmfkggngjeolcaaGreatDoor
open Go.RowKit Bn Dc
namespace Dc
structure Hd where
 T : List Nat
 n1 : Nat
 n2 : Nat
 cnt : Nat
 base : Nat
 sm : Nat
 zr : Nat
def mg : List Nat := [66, 85, 76, 75, 72, 69, 65, 68]
def asksD (bs : List Nat) (x : Hd) (s : D) : D :=
 askD (decide (x.base % 4096 = 0)) 132 0 16 (askD (decide (bs.length ≤ x.cnt * 4096)) 12 0 ((x.cnt * 4096 : Nat) : Int) (askD (decide (x.cnt * 4096 ≤ bs.length)) 10 0 (bs.length : Int) (askD (decide (x.cnt ≤ 1024)) 4 0 12 (askD (decide (x.zr = 0)) 5 0 156 (askD (decide (x.sm = Pl.crc (bs.take 152))) 11 0 152 (askD (decide (x.n2 = 8)) 5 0 10 (askD (decide (x.n1 = 1)) 131 0 8 (askD (decide (x.T = mg)) 130 0 0 s))))))))
def entS (q : Pt) (s : D) : Nat → D
 | 0 => s
 | k + 1 => (entD q (entS q s k)).2
def entE (q : Pt) (s : D) (k : Nat) : En := (entD q (entS q s (k - 1))).1
structure HdR where
 x : Hd
 E : Nat → En
 s : D
def hdD (q : Pt) (s : D) : HdR :=
 let a := bytesD q 8 s
 let b := takeD q 2 a.2
 let c := takeD q 2 b.2
 let d := takeD q 4 c.2
 let e := takeD q 8 d.2
 let f := takeD q 4 (entS q e.2 8)
 let g := takeD q 4 f.2
 ⟨⟨a.1, b.1, c.1, d.1, e.1, f.1, g.1⟩, entE q e.2, g.2⟩
theorem asks_zero {bs : List Nat} {x : Hd} {s : D} (h : (asksD bs x s).why = 0) : s.why = 0 ∧ x.T = mg ∧ x.n1 = 1 ∧ x.n2 = 8 ∧ x.sm = Pl.crc (bs.take 152) ∧ x.zr = 0 ∧ x.cnt ≤ 1024 ∧ x.cnt * 4096 = bs.length ∧ x.base % 4096 = 0 := by
 unfold asksD at h;obtain ⟨a9, h⟩ := ask_zero' (by decide) h;obtain ⟨a8, h⟩ := ask_zero' (by decide) h;obtain ⟨a7, h⟩ := ask_zero' (by decide) h;obtain ⟨a6, h⟩ := ask_zero' (by decide) h;obtain ⟨a5, h⟩ := ask_zero' (by decide) h;obtain ⟨a4, h⟩ := ask_zero' (by decide) h;obtain ⟨a3, h⟩ := ask_zero' (by decide) h;obtain ⟨a2, h⟩ := ask_zero' (by decide) h;obtain ⟨a1, h⟩ := ask_zero' (by decide) h;have b7 := of_decide_eq_true a7;have b8 := of_decide_eq_true a8;exact ⟨h, of_decide_eq_true a1, of_decide_eq_true a2, of_decide_eq_true a3, of_decide_eq_true a4, of_decide_eq_true a5, of_decide_eq_true a6, by omega, of_decide_eq_true a9⟩
end Dc
def EnP (en : List Value) (E : Nat → En) (m : Nat) : Prop := ∀ k, 1 ≤ k → k ≤ m → en[5 * k]? = some (.int .i64 ((E k).a : Int)) ∧ en[5 * k + 1]? = some (.int .i64 ((E k).b : Int)) ∧ en[5 * k + 2]? = some (.int .i64 ((E k).f : Int)) ∧ en[5 * k + 3]? = some (.int .i64 ((E k).l : Int)) ∧ en[5 * k + 4]? = some (.int .u32 ((E k).c : Int))
def en5 (en : List Value) (k : Nat) (x : En) : List Value := ((((en.set (5 * k) (.int .i64 (x.a : Int))).set (5 * k + 1) (.int .i64 (x.b : Int))).set (5 * k + 2) (.int .i64 (x.f : Int))).set (5 * k + 3) (.int .i64 (x.l : Int))).set (5 * k + 4) (.int .u32 (x.c : Int))
theorem EnP.next {en : List Value} {E : Nat → En} {k : Nat} (h : EnP en E (k - 1)) (hk : 1 ≤ k) (hk8 : k ≤ 8) (hl : en.length = 45) : EnP (en5 en k (E k)) E k := fun j h1 h2 => by
 unfold en5
 by_cases e : j = k
 ·subst e;refine ⟨?_, ?_, ?_, ?_, ?_⟩ <;> simp [List.getElem?_set, hl] <;> omega
 ·obtain ⟨a, b, c, d, f⟩ := h j h1 (by omega);refine ⟨?_, ?_, ?_, ?_, ?_⟩
  ·rw [List.getElem?_set_ne (by omega), List.getElem?_set_ne (by omega), List.getElem?_set_ne (by omega), List.getElem?_set_ne (by omega), List.getElem?_set_ne (by omega)]; exact a
  ·rw [List.getElem?_set_ne (by omega), List.getElem?_set_ne (by omega), List.getElem?_set_ne (by omega), List.getElem?_set_ne (by omega), List.getElem?_set_ne (by omega)]; exact b
  ·rw [List.getElem?_set_ne (by omega), List.getElem?_set_ne (by omega), List.getElem?_set_ne (by omega), List.getElem?_set_ne (by omega), List.getElem?_set_ne (by omega)]; exact c
  ·rw [List.getElem?_set_ne (by omega), List.getElem?_set_ne (by omega), List.getElem?_set_ne (by omega), List.getElem?_set_ne (by omega), List.getElem?_set_ne (by omega)]; exact d
  ·rw [List.getElem?_set_ne (by omega), List.getElem?_set_ne (by omega), List.getElem?_set_ne (by omega), List.getElem?_set_ne (by omega), List.getElem?_set_ne (by omega)]; exact f
theorem mkS_list (T : List Nat) : (mkS T).toList = T.map UInt8.ofNat := by
 rw [ByteArray.toList_eq];simp [mkS]
theorem mg_eq {T : List Nat} (h : ∀ z ∈ T, z < 256) : ((mkS T).toList == [66, 85, 76, 75, 72, 69, 65, 68]) = decide (T = mg) := by
 rw [mkS_list]
 by_cases e : T = mg
 ·subst e
  decide
 ·rw [decide_eq_false e];refine beq_eq_false_iff_ne.2 (fun e2 => e ?_);have e3 := congrArg (List.map UInt8.toNat) e2;rw [List.map_map] at e3;have e4 : T.map (UInt8.toNat ∘ UInt8.ofNat) = T := by
   conv => rhs; rw [← List.map_id T]
   refine List.map_congr_left (fun z hz => ?_);simp [Nat.mod_eq_of_lt (h z hz)]
  rw [e4] at e3;exact e3
theorem conv_run {oo : Oper} {a : Act} {w : World} {x : Operand} (ho : oo.op = .convert 43 9 x) {v : Value} {zs : List Nat} (hx : a.eval x = v) (hs : Sl w v zs) : (execOp a.eval oo).run Tryz.prog w = .ok (.value (.string (mkS zs))) w := by
 unfold execOp;simp only [ho, Sem.run_bind, Sem.run_pure, Result.andThen_ok, hx, conv_str hs]
section
variable {B kb : Nat} {raw : Value} {im en : List Value} {q : Pt} {p g : Nat} {w0 : World} {s : D} {w w' : World}
theorem Dt.setEn (h : Dt B kb raw im en q p g w0 s w) {i : Nat} (hi : i < 45) (hn : i ≠ 5 * q.pt + 2) (u : Value) : Dt B kb raw im (en.set i u) q p g w0 s (w.setCell ⟨kb, 13 + i, none⟩ u) := by
 refine ⟨?_, h.him, by rw [List.length_set]; exact h.hen, h.hpt, ?_, h.hlen, h.rd.keeps (Keeps.setCell w kb (13 + i) u) h.ne h.ne', h.hB, h.fr.trans (Keeps.mono (Keeps.setCell w kb (13 + i) u) (fun k _ e => by subst e; exact ⟨h.hB.1, .inl ⟨_, h.blk⟩⟩))⟩
 ·rw [← rdC_setEn h.him h.hen hi u];simp [World.setCell, Array.getElem?_modify, h.blk]
 ·rw [List.getElem?_set_ne hn];exact h.hfi
theorem Dt.setEn5 (h : Dt B kb raw im en q p g w0 s w) {k : Nat} (hk : 1 ≤ k) (hk8 : k ≤ 8) (hp : q.pt = 0) (x : En) : Dt B kb raw im (en5 en k x) q p g w0 s (((((w.setCell ⟨kb, 13 + k * 5, none⟩ (.int .i64 (x.a : Int))).setCell ⟨kb, 13 + k * 5 + 1, none⟩ (.int .i64 (x.b : Int))).setCell ⟨kb, 13 + k * 5 + 2, none⟩ (.int .i64 (x.f : Int))).setCell ⟨kb, 13 + k * 5 + 3, none⟩ (.int .i64 (x.l : Int))).setCell ⟨kb, 13 + k * 5 + 4, none⟩ (.int .u32 (x.c : Int))) := by
 have h1 := h.setEn (i := 5 * k) (by omega) (by omega) (.int .i64 (x.a : Int));have h2 := h1.setEn (i := 5 * k + 1) (by omega) (by omega) (.int .i64 (x.b : Int));have h3 := h2.setEn (i := 5 * k + 2) (by omega) (by omega) (.int .i64 (x.f : Int));have h4 := h3.setEn (i := 5 * k + 3) (by omega) (by omega) (.int .i64 (x.l : Int));have h5 := h4.setEn (i := 5 * k + 4) (by omega) (by omega) (.int .u32 (x.c : Int));rw [show 13 + k * 5 = 13 + 5 * k by omega, show 13 + 5 * k + 1 = 13 + (5 * k + 1) by omega, show 13 + 5 * k + 2 = 13 + (5 * k + 2) by omega, show 13 + 5 * k + 3 = 13 + (5 * k + 3) by omega, show 13 + 5 * k + 4 = 13 + (5 * k + 4) by omega];exact h5
theorem Dt.cEn (h : Dt B kb raw im en q p g w0 s w) {k i : Nat} (hk8 : k ≤ 8) (hi : i < 5) : ∃ u, w.cell? ⟨kb, 13 + k * 5 + i, none⟩ = some u := by
 have hl : 5 * k + i < en.length := by rw [h.hen]; omega
 refine ⟨en[5 * k + i], ?_⟩;rw [show 13 + k * 5 + i = 13 + (5 * k + i) by omega, h.dn.ce (by omega), List.getElem?_eq_getElem hl]
theorem headShortX {ao : Option Addr} {N cap : Nat} (h : Dt B kb (.slice ao N cap) im en q p g w0 s w) (hN : N < 160) : Calls Tryz.prog 113 #[.pointer (some ⟨kb, 0, none⟩)] w fun e w' => e = .returned (.tuple #[]) ∧ Dt B kb (.slice ao N cap) im en q p g w0 (askD false 10 0 (N : Int) s) w' := by
 have x0 : w.cell? ⟨kb, 0, none⟩ = some (.slice ao N cap) := (h.cell 0).trans rdC_raw;have HA := Lib.hid (daskX h false 10 0 (N : Int));have hi : (N : Int) < 160 := by omega
 clear h;go_enter Tryz.func113, Tryz.ntmps113
 go_wp2_with fail
 refine HA.out.mono ?_;rintro e w1 ⟨rfl, h1⟩;have H1 := Lib.hid h1;clear h1 HA;go_wp2_with fail
 first | go_end0 | skip
 first | exact ⟨rfl, H1.out⟩ | (refine bodyPost_ret (results_none rfl _ _ _) rfl ?_; exact ⟨rfl, H1.out⟩)
end
end Go.Proofs.YtmfkggngjeolcaaGreatDoor
namespace Go.Proofs.YtmfkggngjeolcaaGreatDoor
open Go.RowKit Bn Dc
section
variable {B kb : Nat} {raw : Value} {im en : List Value} {q : Pt} {p g : Nat} {w0 : World} {s : D} {w w' : World}
theorem headerX {bs : List Nat} {rb ro cap : Nat} (h : Dt B kb (.slice (some ⟨rb, ro, none⟩) bs.length cap) im en q p g w0 s w) (hpt : q.pt = 0) (hsz : 160 ≤ bs.length) (hraw : ∀ W, Fd B w0 W → Sl W (.slice (some ⟨rb, ro, none⟩) bs.length cap) bs) (ht : ∀ W, Fd B w0 W → Tab W) : Calls Tryz.prog 113 #[.pointer (some ⟨kb, 0, none⟩)] w fun e w' => e = .returned (.tuple #[]) ∧ ∃ enF, EnR enF (hdD q s).E ∧ Dt B kb (.slice (some ⟨rb, ro, none⟩) bs.length cap) (im.set 0 (.int .u64 ((hdD q s).x.base : Nat))) enF q p g w0 (sealS (hdD q s).E bs 8 (dirS (hdD q s).E bs.length 8 (asksD bs (hdD q s).x (hdD q s).s))) w' := by
 have H0 : Hid (Dt B kb (.slice (some ⟨rb, ro, none⟩) bs.length cap) im en q p g w0 s w) := h;obtain ⟨T, s1, e0⟩ : ∃ v t, bytesD q 8 s = (v, t) := ⟨_, _, rfl⟩
 obtain ⟨n1, s2, e1⟩ : ∃ v t, takeD q 2 s1 = (v, t) := ⟨_, _, rfl⟩
 obtain ⟨n2, s3, e2⟩ : ∃ v t, takeD q 2 s2 = (v, t) := ⟨_, _, rfl⟩
 obtain ⟨cnt, s4, e3⟩ : ∃ v t, takeD q 4 s3 = (v, t) := ⟨_, _, rfl⟩
 obtain ⟨base, s5, e4⟩ : ∃ v t, takeD q 8 s4 = (v, t) := ⟨_, _, rfl⟩
 obtain ⟨sm, s6, e5⟩ : ∃ v t, takeD q 4 (entS q s5 8) = (v, t) := ⟨_, _, rfl⟩
 obtain ⟨zr, s7, e6⟩ : ∃ v t, takeD q 4 s6 = (v, t) := ⟨_, _, rfl⟩
 have HE : hdD q s = ⟨⟨T, n1, n2, cnt, base, sm, zr⟩, entE q s5, s7⟩ := by simp only [hdD, e0, e1, e2, e3, e4, e5, e6]
 rw [HE];dsimp only;clear HE;have HTs : Hid (∀ z ∈ T, z < 256) := show ∀ z ∈ T, z < 256 by
  have h9 : ∀ z ∈ (bytesD q 8 s).1, z < 256 := fun z hz => by
   unfold bytesD at hz
   split at hz
   ·split at hz
    ·exact h.small z (List.mem_of_mem_drop (List.mem_of_mem_take hz))
    ·cases hz
   ·cases hz
  rw [e0] at h9;exact h9
 have bb0 : n1 < 65536 := by have h9 := take_lt h.small 2 s1; rw [e1] at h9; exact h9
 have bb1 : n2 < 65536 := by have h9 := take_lt h.small 2 s2; rw [e2] at h9; exact h9
 have bb2 : cnt < 4294967296 := by have h9 := take_lt h.small 4 s3; rw [e3] at h9; exact h9
 have bb3 : base < 18446744073709551616 := by have h9 := take_lt h.small 8 s4; rw [e4] at h9; exact h9
 have bb4 : sm < 4294967296 := by have h9 := take_lt h.small 4 (entS q s5 8); rw [e5] at h9; exact h9
 have bb5 : zr < 4294967296 := by have h9 := take_lt h.small 4 s6; rw [e6] at h9; exact h9
 have HEs : Hid (enSm (entE q s5)) := fun k => by
  have a1 := take_lt h.small 2 (entS q s5 (k - 1));have a2 := take_lt h.small 2 (takeD q 2 (entS q s5 (k - 1))).2;have a3 := take_lt h.small 4 (takeD q 2 (takeD q 2 (entS q s5 (k - 1))).2).2;have a4 := take_lt h.small 4 (takeD q 4 (takeD q 2 (takeD q 2 (entS q s5 (k - 1))).2).2).2;refine ⟨?_, ?_, ?_, ?_⟩
  ·show (takeD q 2 (entS q s5 (k - 1))).1 ≤ _; omega
  ·show (takeD q 2 (takeD q 2 (entS q s5 (k - 1))).2).1 ≤ _; omega
  ·show (takeD q 4 (takeD q 2 (takeD q 2 (entS q s5 (k - 1))).2).2).1 ≤ _; omega
  ·show (takeD q 4 (takeD q 4 (takeD q 2 (takeD q 2 (entS q s5 (k - 1))).2).2).2).1 ≤ _; omega
 have K0 : Hid (∀ W, Dt B kb (.slice (some ⟨rb, ro, none⟩) bs.length cap) im en q p g w0 s W → Calls Tryz.prog 134 #[.pointer (some ⟨p, 0, none⟩), .int .i64 8] W fun e w' => ∃ v, e = .returned v ∧ Bv w' v T ∧ Dt B kb (.slice (some ⟨rb, ro, none⟩) bs.length cap) im en q p g w0 s1 w') := fun W hW => by have h9 := tBytesX hW (n := 8) (by decide); rw [e0] at h9; exact h9
 have K1 : Hid (∀ W v, Dt B kb (.slice (some ⟨rb, ro, none⟩) bs.length cap) im en q p g w0 s1 W → Bv W v T → Calls Tryz.prog 135 #[.pointer (some ⟨p, 0, none⟩)] W fun e w' => ∃ u, e = .returned u ∧ u = .int .u16 (n1 : Nat) ∧ Dt B kb (.slice (some ⟨rb, ro, none⟩) bs.length cap) im en q p g w0 s2 w' ∧ Bv w' v T) := fun W v hW hv => by have h9 := tHalfX hW.here; rw [e1] at h9; exact h9.mono (fun e w' h => ⟨_, h.1, rfl, h.2.since hW.fr, hv.fd h.2.fr⟩)
 have K2 : Hid (∀ W v, Dt B kb (.slice (some ⟨rb, ro, none⟩) bs.length cap) im en q p g w0 s2 W → Bv W v T → Calls Tryz.prog 135 #[.pointer (some ⟨p, 0, none⟩)] W fun e w' => ∃ u, e = .returned u ∧ u = .int .u16 (n2 : Nat) ∧ Dt B kb (.slice (some ⟨rb, ro, none⟩) bs.length cap) im en q p g w0 s3 w' ∧ Bv w' v T) := fun W v hW hv => by have h9 := tHalfX hW.here; rw [e2] at h9; exact h9.mono (fun e w' h => ⟨_, h.1, rfl, h.2.since hW.fr, hv.fd h.2.fr⟩)
 have K3 : Hid (∀ W, Dt B kb (.slice (some ⟨rb, ro, none⟩) bs.length cap) im en q p g w0 s3 W → Calls Tryz.prog 136 #[.pointer (some ⟨p, 0, none⟩)] W fun e w' => e = .returned (.int .u32 (cnt : Nat)) ∧ Dt B kb (.slice (some ⟨rb, ro, none⟩) bs.length cap) im en q p g w0 s4 w') := fun W hW => by have h9 := tWordX hW; rw [e3] at h9; exact h9
 have K4 : Hid (∀ W, Dt B kb (.slice (some ⟨rb, ro, none⟩) bs.length cap) im en q p g w0 s4 W → Calls Tryz.prog 137 #[.pointer (some ⟨p, 0, none⟩)] W fun e w' => e = .returned (.int .u64 (base : Nat)) ∧ Dt B kb (.slice (some ⟨rb, ro, none⟩) bs.length cap) im en q p g w0 s5 w') := fun W hW => by have h9 := tLongX hW; rw [e4] at h9; exact h9
 have KE : Hid (∀ W en k, 1 ≤ k → Dt B kb (.slice (some ⟨rb, ro, none⟩) bs.length cap) im en q p g w0 (entS q s5 (k - 1)) W → Calls Tryz.prog 138 #[.pointer (some ⟨p, 0, none⟩)] W fun e w' => e = .returned (.agg (enE (entE q s5 k)).toArray) ∧ Dt B kb (.slice (some ⟨rb, ro, none⟩) bs.length cap) im en q p g w0 (entS q s5 k) w') := fun W en k hk hW => by
  have h9 := readEntX hW;rw [show (entD q (entS q s5 (k - 1))).2 = entS q s5 k by obtain ⟨j, rfl⟩ : ∃ j, k = j + 1 := ⟨k - 1, by omega⟩; rfl] at h9;exact h9
 have K5 : Hid (∀ W en, Dt B kb (.slice (some ⟨rb, ro, none⟩) bs.length cap) im en q p g w0 (entS q s5 8) W → Calls Tryz.prog 136 #[.pointer (some ⟨p, 0, none⟩)] W fun e w' => e = .returned (.int .u32 (sm : Nat)) ∧ Dt B kb (.slice (some ⟨rb, ro, none⟩) bs.length cap) im en q p g w0 s6 w') := fun W en hW => by have h9 := tWordX hW; rw [e5] at h9; exact h9
 have K6 : Hid (∀ W en, Dt B kb (.slice (some ⟨rb, ro, none⟩) bs.length cap) im en q p g w0 s6 W → Calls Tryz.prog 136 #[.pointer (some ⟨p, 0, none⟩)] W fun e w' => e = .returned (.int .u32 (zr : Nat)) ∧ Dt B kb (.slice (some ⟨rb, ro, none⟩) bs.length cap) im en q p g w0 s7 w') := fun W en hW => by have h9 := tWordX hW; rw [e6] at h9; exact h9
 have HC : Hid (∀ W t, Dt B kb (.slice (some ⟨rb, ro, none⟩) bs.length cap) im en q p g w0 t W → W.cell? ⟨kb, 59, none⟩ = some (.pointer (some ⟨p, 0, none⟩))) := fun W t hW => hW.c59;have HEa := Lib.hid (enters_of Tryz.func134 (by kernel_rfl) rfl);have HEb := Lib.hid (enters_of Tryz.func135 (by kernel_rfl) rfl);have x0 : w.cell? ⟨kb, 0, none⟩ = some (.slice (some ⟨rb, ro, none⟩) bs.length cap) := (h.cell 0).trans rdC_raw;have c59 : w.drew.cell? ⟨kb, 59, none⟩ = some (.pointer (some ⟨p, 0, none⟩)) := h.drew.c59;have hzi : ¬ (bs.length : Int) < 160 := by omega
 have HD0 := Lib.hid h.drew;have HRw : Hid (∀ W, Fd B w0 W → Sl W (.slice (some ⟨rb, ro, none⟩) bs.length cap) bs) := hraw;have HTb : Hid (∀ W, Fd B w0 W → Tab W) := ht;have HPt : Hid (q.pt = 0) := hpt;have HSz : Hid (160 ≤ bs.length) := hsz;clear h e0 e1 e2 e3 e4 e5 e6 hraw ht hpt hsz;go_enter Tryz.func113, Tryz.ntmps113
 go_upto_region 3 with fail
 go_cut [3, 4, 5] (fun y3 y4 y5 wx => y3 = .string (mkS T) ∧ y4 = .int .u16 (n1 : Int) ∧ y5 = .int .u16 (n2 : Int) ∧ Hid (Dt B kb (.slice (some ⟨rb, ro, none⟩) bs.length cap) im en q p g w0 s3 wx))
 case first =>
   refine wp_region_held_drew (S := fun W => W.cell? ⟨kb, 59, none⟩ = some (.pointer (some ⟨p, 0, none⟩))) (by kernel_rfl) c59 (fun hH => ?_);simp only [List.size_toArray, List.length_cons, List.length_nil];refine takeK 0 22 (Value.pointer (some ⟨kb, 0, none⟩)) hH ?_;refine takeK 1 23 (Value.pointer (some ⟨kb, 0, none⟩)) hH ?_;refine takeK 2 24 (Value.pointer (some ⟨kb, 59, none⟩)) hH ?_;refine takeK 3 25 (Value.pointer (some ⟨p, 0, none⟩)) hH ?_;refine takeK 6 28 (Value.pointer (some ⟨kb, 0, none⟩)) hH ?_;refine takeK 7 29 (Value.pointer (some ⟨kb, 0, none⟩)) hH ?_;refine takeK 8 30 (Value.pointer (some ⟨kb, 59, none⟩)) hH ?_;refine takeK 9 31 (Value.pointer (some ⟨p, 0, none⟩)) hH ?_;refine takeK 11 33 (Value.pointer (some ⟨kb, 0, none⟩)) hH ?_;refine takeK 12 34 (Value.pointer (some ⟨kb, 0, none⟩)) hH ?_;refine takeK 13 35 (Value.pointer (some ⟨kb, 59, none⟩)) hH ?_;refine takeK 14 36 (Value.pointer (some ⟨p, 0, none⟩)) hH ?_;refine wpAnyH_ready (rs := [4]) (by kernel_rfl) (by simp) ?_;refine readyCall (i := 4) (d := 26) rfl rfl (by kernel_rfl) 134 _ _ rfl HEa.out _ (by simp [Act.eval]) (K0.out _ HD0.out) (fun v w' h => HC.out _ _ h.2) ?_ AllReadyH.nil;rintro v3 y1 ⟨hv1, hd1⟩ hs1;simp only [Act.put, List.setIfInBounds_toArray, List.set_cons_succ, List.set_cons_zero];refine wpAnyH_ready (rs := [5, 10]) (by kernel_rfl) (by simp) ?_;refine readyVal (i := 5) (d := 27) rfl rfl (by kernel_rfl) (.string (mkS T)) (conv_run (x := .tmp 26) rfl rfl hv1.sl) hs1 ?_ ?_
   ·simp only [Act.put, List.setIfInBounds_toArray, List.set_cons_succ, List.set_cons_zero];refine wpAnyH_ready (rs := [10]) (by kernel_rfl) (by simp) ?_;refine readyCall (i := 10) (d := 32) rfl rfl (by kernel_rfl) 135 _ _ rfl HEb.out _ (by simp [Act.eval]) (K1.out _ _ hd1 hv1) (fun v w' h => HC.out _ _ h.2.1) ?_ AllReadyH.nil;rintro _ y2 ⟨rfl, hd2, hv2⟩ hs2;simp only [Act.put, List.setIfInBounds_toArray, List.set_cons_succ, List.set_cons_zero];refine wpAnyH_ready (rs := [15]) (by kernel_rfl) (by simp) ?_;refine readyCall (i := 15) (d := 37) rfl rfl (by kernel_rfl) 135 _ _ rfl HEb.out _ (by simp [Act.eval]) (K2.out _ _ hd2 hv2) (fun v w' h => HC.out _ _ h.2.1) ?_ AllReadyH.nil;rintro _ y3 ⟨rfl, hd3, hv3⟩ hs3;simp only [Act.put, List.setIfInBounds_toArray, List.set_cons_succ, List.set_cons_zero];refine takeK 16 3 (.string (mkS T)) hs3 ?_;refine takeK 17 4 (.int .u16 (n1 : Int)) hs3 ?_;refine takeK 18 5 (.int .u16 (n2 : Int)) hs3 ?_;refine wpAnyH_done (by kernel_rfl) ?_ _;go_wp2_with fail
    go_meet
    exact ⟨rfl, rfl, rfl, hd3⟩
   ·refine readyCall (i := 10) (d := 32) rfl rfl (by kernel_rfl) 135 _ _ rfl HEb.out _ (by simp [Act.eval]) (K1.out _ _ hd1 hv1) (fun v w' h => HC.out _ _ h.2.1) ?_ AllReadyH.nil;rintro _ y2 ⟨rfl, hd2, hv2⟩ hs2;simp only [Act.put, List.setIfInBounds_toArray, List.set_cons_succ, List.set_cons_zero];refine wpAnyH_ready (rs := [5, 15]) (by kernel_rfl) (by simp) ?_;refine readyVal (i := 5) (d := 27) rfl rfl (by kernel_rfl) (.string (mkS T)) (conv_run (x := .tmp 26) rfl rfl hv2.sl) hs2 ?_ ?_
    ·simp only [Act.put, List.setIfInBounds_toArray, List.set_cons_succ, List.set_cons_zero];refine wpAnyH_ready (rs := [15]) (by kernel_rfl) (by simp) ?_;refine readyCall (i := 15) (d := 37) rfl rfl (by kernel_rfl) 135 _ _ rfl HEb.out _ (by simp [Act.eval]) (K2.out _ _ hd2 hv2) (fun v w' h => HC.out _ _ h.2.1) ?_ AllReadyH.nil;rintro _ y3 ⟨rfl, hd3, hv3⟩ hs3;simp only [Act.put, List.setIfInBounds_toArray, List.set_cons_succ, List.set_cons_zero];refine takeK 16 3 (.string (mkS T)) hs3 ?_;refine takeK 17 4 (.int .u16 (n1 : Int)) hs3 ?_;refine takeK 18 5 (.int .u16 (n2 : Int)) hs3 ?_;refine wpAnyH_done (by kernel_rfl) ?_ _;go_wp2_with fail
     go_meet
     exact ⟨rfl, rfl, rfl, hd3⟩
    ·refine readyCall (i := 15) (d := 37) rfl rfl (by kernel_rfl) 135 _ _ rfl HEb.out _ (by simp [Act.eval]) (K2.out _ _ hd2 hv2) (fun v w' h => HC.out _ _ h.2.1) ?_ AllReadyH.nil;rintro _ y3 ⟨rfl, hd3, hv3⟩ hs3;simp only [Act.put, List.setIfInBounds_toArray, List.set_cons_succ, List.set_cons_zero];refine wpAnyH_ready (rs := [5]) (by kernel_rfl) (by simp) ?_;refine readyVal (i := 5) (d := 27) rfl rfl (by kernel_rfl) (.string (mkS T)) (conv_run (x := .tmp 26) rfl rfl hv3.sl) hs3 ?_ AllReadyH.nil;simp only [Act.put, List.setIfInBounds_toArray, List.set_cons_succ, List.set_cons_zero];refine takeK 16 3 (.string (mkS T)) hs3 ?_;refine takeK 17 4 (.int .u16 (n1 : Int)) hs3 ?_;refine takeK 18 5 (.int .u16 (n2 : Int)) hs3 ?_;refine wpAnyH_done (by kernel_rfl) ?_ _;go_wp2_with fail
     go_meet
     exact ⟨rfl, rfl, rfl, hd3⟩
 case rest =>
  obtain ⟨rfl, rfl, rfl, H3⟩ := hcut;clear H0 HD0 K0 K1 K2 x0 c59 HEa HEb;have c59 := H3.out.drew.c59;have HD3 := Lib.hid H3.out.drew;go_upto_region 4 with fail
  go_cut [6, 7] (fun y6 y7 wx => y6 = .int .u32 (cnt : Int) ∧ y7 = .int .u64 (base : Int) ∧ Hid (Dt B kb (.slice (some ⟨rb, ro, none⟩) bs.length cap) im en q p g w0 s5 wx))
  case first =>
   go_region_held3 (fun W => W.cell? ⟨kb, 59, none⟩ = some (.pointer (some ⟨p, 0, none⟩))) (first | assumption | go_keep) (first | (go_at_call 136; refine (K3.out _ HD3.out).mono ?_; rintro e y1 ⟨rfl, h1⟩; have HX1 := Lib.hid h1; have a59 := h1.c59; clear h1 HD3) | (go_at_call 137; refine (K4.out _ HX1.out).mono ?_; rintro e y2 ⟨rfl, h2⟩; have HX2 := Lib.hid h2; have b59 := h2.c59; clear h2 HX1))
   all_goals
    go_wp2_with fail
    go_meet
    exact ⟨rfl, rfl, HX2⟩
  case rest =>
   obtain ⟨rfl, rfl, H5⟩ := hcut;clear H3 HD3 K3 K4 c59;go_wp2_with fail
   go_loopw [8] (fun kv wr => ∃ (k : Nat) (eK : List Value), 1 ≤ k ∧ k ≤ 9 ∧ kv = .int .i64 (k : Int) ∧ Hid (EnP eK (entE q s5) (k - 1)) ∧ Hid (Dt B kb (.slice (some ⟨rb, ro, none⟩) bs.length cap) im eK q p g w0 (entS q s5 (k - 1)) wr)) (fun kv _ => 9 - (intOf kv).toNat)
   case atStart => exact ⟨1, en, by decide, by decide, rfl, fun j h1 h2 => absurd h2 (by omega), H5⟩
   case round =>
    clear H5;obtain ⟨k, eK, hk1, hk9, rfl, HP, HI⟩ := hrel
    by_cases hk : k < 9
    ·have hk8 : k ≤ 8 := by omega
     have jk : (k : Int) < 9 := by omega
     have jk0 : (0 : Int) ≤ (k : Int) := by omega
     have hwk : IntKind.i64.wrap ((k : Int) + 1) = ((k + 1 : Nat) : Int) := by rw [IntKind.wrap_i64]; omega
     have c59 := HI.out.drew.c59;have HKE := Lib.hid (KE.out _ _ _ hk1 HI.out.drew);have HPn := Lib.hid (HP.out.next hk1 hk8 HI.out.hen);obtain ⟨⟨xa, xb, xf, xl, xc⟩, hx⟩ : ∃ x, entE q s5 k = x := ⟨_, rfl⟩
     rw [hx] at HKE HPn;simp only [enE, entV] at HKE;clear hx HP HI;have HKp : Hid (∀ W, Dt B kb (.slice (some ⟨rb, ro, none⟩) bs.length cap) im eK q p g w0 (entS q s5 k) W → (((((W.setCell ⟨kb, 13 + k * 5, none⟩ (.int .i64 (xa : Int))).setCell ⟨kb, 13 + k * 5 + 1, none⟩ (.int .i64 (xb : Int))).setCell ⟨kb, 13 + k * 5 + 2, none⟩ (.int .i64 (xf : Int))).setCell ⟨kb, 13 + k * 5 + 3, none⟩ (.int .i64 (xl : Int))).setCell ⟨kb, 13 + k * 5 + 4, none⟩ (.int .u32 (xc : Int))).cell? ⟨kb, 59, none⟩ = some (.pointer (some ⟨p, 0, none⟩)) ∧ Dt B kb (.slice (some ⟨rb, ro, none⟩) bs.length cap) im (en5 eK k ⟨xa, xb, xf, xl, xc⟩) q p g w0 (entS q s5 k) (((((W.setCell ⟨kb, 13 + k * 5, none⟩ (.int .i64 (xa : Int))).setCell ⟨kb, 13 + k * 5 + 1, none⟩ (.int .i64 (xb : Int))).setCell ⟨kb, 13 + k * 5 + 2, none⟩ (.int .i64 (xf : Int))).setCell ⟨kb, 13 + k * 5 + 3, none⟩ (.int .i64 (xl : Int))).setCell ⟨kb, 13 + k * 5 + 4, none⟩ (.int .u32 (xc : Int)))) := fun W hW => by
      have h9 := hW.setEn5 hk1 hk8 HPt.out ⟨xa, xb, xf, xl, xc⟩;exact ⟨h9.c59, h9⟩
     have HCe : Hid (∀ W, Dt B kb (.slice (some ⟨rb, ro, none⟩) bs.length cap) im eK q p g w0 (entS q s5 k) W → (∃ u, W.cell? ⟨kb, 13 + k * 5, none⟩ = some u) ∧ (∃ u, W.cell? ⟨kb, 13 + k * 5 + 1, none⟩ = some u) ∧ (∃ u, W.cell? ⟨kb, 13 + k * 5 + 2, none⟩ = some u) ∧ (∃ u, W.cell? ⟨kb, 13 + k * 5 + 3, none⟩ = some u) ∧ (∃ u, W.cell? ⟨kb, 13 + k * 5 + 4, none⟩ = some u)) := fun W hW => ⟨hW.cEn (i := 0) hk8 (by decide), hW.cEn (i := 1) hk8 (by decide), hW.cEn (i := 2) hk8 (by decide), hW.cEn (i := 3) hk8 (by decide), hW.cEn (i := 4) hk8 (by decide)⟩
     have HFe : Hid (∀ W, Dt B kb (.slice (some ⟨rb, ro, none⟩) bs.length cap) im eK q p g w0 (entS q s5 k) W → ∀ i, W.frozen? ⟨kb, i, none⟩ = false) := fun W hW i => hW.free i;go_wp2_with fail
     go_region_held3 (fun W => W.cell? ⟨kb, 59, none⟩ = some (.pointer (some ⟨p, 0, none⟩))) (first | (with_reducible assumption) | (with_reducible exact (HKp.out _ HX1.out).1) | go_keep) (first | (go_at_call 138; refine HKE.out.mono ?_; rintro e y1 ⟨rfl, h1⟩; have HX1 := Lib.hid h1; have a59 := h1.c59; obtain ⟨⟨u0, g0⟩, ⟨u1, g1⟩, ⟨u2, g2⟩, ⟨u3, g3⟩, ⟨u4, g4⟩⟩ := HCe.out _ h1; have z0 := HFe.out _ h1 (13 + k * 5); have z1 := HFe.out _ h1 (13 + k * 5 + 1); have z2 := HFe.out _ h1 (13 + k * 5 + 2); have z3 := HFe.out _ h1 (13 + k * 5 + 3); have z4 := HFe.out _ h1 (13 + k * 5 + 4); clear h1 HKE))
     all_goals
      have HX2 := Lib.hid (HKp.out _ HX1.out).2;clear HKp HX1 HCe HFe;go_wp2_with fail
      go_roundw
      case rel => exact ⟨k + 1, _, by omega, by omega, rfl, by rw [Nat.add_sub_cancel]; exact HPn, by rw [Nat.add_sub_cancel]; exact HX2⟩
      case measure => simp [intOf] <;> omega
    ·obtain rfl : k = 9 := by omega
     have HP8 : Hid (EnP eK (entE q s5) 8) := HP;have HI8 : Hid (Dt B kb (.slice (some ⟨rb, ro, none⟩) bs.length cap) im eK q p g w0 (entS q s5 8) wr) := HI;clear HP HI KE;have c59 := HI8.out.drew.c59;have HD8 := Lib.hid HI8.out.drew;go_upto_region 9 with fail
     go_cut [9, 10] (fun y9 y10 wx => y9 = .int .u32 (sm : Int) ∧ y10 = .int .u32 (zr : Int) ∧ Hid (Dt B kb (.slice (some ⟨rb, ro, none⟩) bs.length cap) im eK q p g w0 s7 wx))
     case first =>
      go_region_held3 (fun W => W.cell? ⟨kb, 59, none⟩ = some (.pointer (some ⟨p, 0, none⟩))) (first | (with_reducible assumption) | go_keep) (first | (go_at_call 136; refine (K5.out _ _ HD8.out).mono ?_; rintro e y1 ⟨rfl, h1⟩; have HX1 := Lib.hid h1; have a59 := h1.c59; clear h1 HD8 K5) | (go_at_call 136; refine (K6.out _ _ HX1.out).mono ?_; rintro e y2 ⟨rfl, h2⟩; have HX2 := Lib.hid h2; have b59 := h2.c59; clear h2 HX1 K6))
      all_goals
       go_wp2_with fail
       go_meet
       exact ⟨rfl, rfl, HX2⟩
     case rest =>
      obtain ⟨rfl, rfl, H7⟩ := hcut;clear HI8 HD8 K5 K6 c59;obtain ⟨eN, heN⟩ : ∃ n, cnt * 4096 = n := ⟨_, rfl⟩
      have HeN := Lib.hid heN;have hc1 : IntKind.i64.wrap (cnt : Int) = (cnt : Int) := by rw [IntKind.wrap_i64]; omega
      have hc2 : IntKind.i64.wrap ((cnt : Int) * 4096) = (eN : Int) := by rw [IntKind.wrap_i64]; omega
      obtain ⟨b0, hb0⟩ : ∃ b, decide (T = mg) = b := ⟨_, rfl⟩
      obtain ⟨b1, hb1⟩ : ∃ b, decide (n1 = 1) = b := ⟨_, rfl⟩
      obtain ⟨b2, hb2⟩ : ∃ b, decide (n2 = 8) = b := ⟨_, rfl⟩
      obtain ⟨b3, hb3⟩ : ∃ b, decide (sm = Pl.crc (bs.take 152)) = b := ⟨_, rfl⟩
      obtain ⟨b4, hb4⟩ : ∃ b, decide (zr = 0) = b := ⟨_, rfl⟩
      obtain ⟨b5, hb5⟩ : ∃ b, decide (cnt ≤ 1024) = b := ⟨_, rfl⟩
      obtain ⟨b6, hb6⟩ : ∃ b, decide (eN ≤ bs.length) = b := ⟨_, rfl⟩
      obtain ⟨b7, hb7⟩ : ∃ b, decide (bs.length ≤ eN) = b := ⟨_, rfl⟩
      obtain ⟨b8, hb8⟩ : ∃ b, decide (base % 4096 = 0) = b := ⟨_, rfl⟩
      obtain ⟨t0, ht0⟩ : ∃ t, s7 = t := ⟨_, rfl⟩
      obtain ⟨t1, ht1⟩ : ∃ t, askD b0 130 0 0 t0 = t := ⟨_, rfl⟩
      obtain ⟨t2, ht2⟩ : ∃ t, askD b1 131 0 8 t1 = t := ⟨_, rfl⟩
      obtain ⟨t3, ht3⟩ : ∃ t, askD b2 5 0 10 t2 = t := ⟨_, rfl⟩
      obtain ⟨t4, ht4⟩ : ∃ t, askD b3 11 0 152 t3 = t := ⟨_, rfl⟩
      obtain ⟨t5, ht5⟩ : ∃ t, askD b4 5 0 156 t4 = t := ⟨_, rfl⟩
      obtain ⟨t6, ht6⟩ : ∃ t, askD b5 4 0 12 t5 = t := ⟨_, rfl⟩
      obtain ⟨t7, ht7⟩ : ∃ t, askD b6 10 0 (bs.length : Int) t6 = t := ⟨_, rfl⟩
      obtain ⟨t8, ht8⟩ : ∃ t, askD b7 12 0 (eN : Int) t7 = t := ⟨_, rfl⟩
      obtain ⟨t9, ht9⟩ : ∃ t, askD b8 132 0 16 t8 = t := ⟨_, rfl⟩
      have HAs : Hid (asksD bs ⟨T, n1, n2, cnt, base, sm, zr⟩ s7 = t9) := by
       show asksD _ _ _ = t9
       unfold asksD;dsimp only;rw [heN, hb0, hb1, hb2, hb3, hb4, hb5, hb6, hb7, hb8, ht0, ht1, ht2, ht3, ht4, ht5, ht6, ht7, ht8, ht9]
      have HZr : Hid (t9.why = 0 → bs.length ≤ 4194304) := fun e => by
       have h9 := asks_zero (by rw [HAs.out]; exact e);have a1 := h9.2.2.2.2.2.2.1;have a2 := h9.2.2.2.2.2.2.2.1;dsimp only at a1 a2;omega
      have A0 : Hid (∀ W, Dt B kb (.slice (some ⟨rb, ro, none⟩) bs.length cap) im eK q p g w0 t0 W → Calls Tryz.prog 133 #[.pointer (some ⟨kb, 0, none⟩), .bool b0, .int .i64 130, .int .i64 0, .int .i64 0] W fun e w' => e = .returned (.tuple #[]) ∧ Dt B kb (.slice (some ⟨rb, ro, none⟩) bs.length cap) im eK q p g w0 t1 w') := fun W hW => by have h9 := daskX hW b0 130 0 0; rw [ht1] at h9; exact h9
      have A1 : Hid (∀ W, Dt B kb (.slice (some ⟨rb, ro, none⟩) bs.length cap) im eK q p g w0 t1 W → Calls Tryz.prog 133 #[.pointer (some ⟨kb, 0, none⟩), .bool b1, .int .i64 131, .int .i64 0, .int .i64 8] W fun e w' => e = .returned (.tuple #[]) ∧ Dt B kb (.slice (some ⟨rb, ro, none⟩) bs.length cap) im eK q p g w0 t2 w') := fun W hW => by have h9 := daskX hW b1 131 0 8; rw [ht2] at h9; exact h9
      have A2 : Hid (∀ W, Dt B kb (.slice (some ⟨rb, ro, none⟩) bs.length cap) im eK q p g w0 t2 W → Calls Tryz.prog 133 #[.pointer (some ⟨kb, 0, none⟩), .bool b2, .int .i64 5, .int .i64 0, .int .i64 10] W fun e w' => e = .returned (.tuple #[]) ∧ Dt B kb (.slice (some ⟨rb, ro, none⟩) bs.length cap) im eK q p g w0 t3 w') := fun W hW => by have h9 := daskX hW b2 5 0 10; rw [ht3] at h9; exact h9
      have A3 : Hid (∀ W, Dt B kb (.slice (some ⟨rb, ro, none⟩) bs.length cap) im eK q p g w0 t3 W → Calls Tryz.prog 133 #[.pointer (some ⟨kb, 0, none⟩), .bool b3, .int .i64 11, .int .i64 0, .int .i64 152] W fun e w' => e = .returned (.tuple #[]) ∧ Dt B kb (.slice (some ⟨rb, ro, none⟩) bs.length cap) im eK q p g w0 t4 w') := fun W hW => by have h9 := daskX hW b3 11 0 152; rw [ht4] at h9; exact h9
      have A4 : Hid (∀ W, Dt B kb (.slice (some ⟨rb, ro, none⟩) bs.length cap) im eK q p g w0 t4 W → Calls Tryz.prog 133 #[.pointer (some ⟨kb, 0, none⟩), .bool b4, .int .i64 5, .int .i64 0, .int .i64 156] W fun e w' => e = .returned (.tuple #[]) ∧ Dt B kb (.slice (some ⟨rb, ro, none⟩) bs.length cap) im eK q p g w0 t5 w') := fun W hW => by have h9 := daskX hW b4 5 0 156; rw [ht5] at h9; exact h9
      have A5 : Hid (∀ W, Dt B kb (.slice (some ⟨rb, ro, none⟩) bs.length cap) im eK q p g w0 t5 W → Calls Tryz.prog 133 #[.pointer (some ⟨kb, 0, none⟩), .bool b5, .int .i64 4, .int .i64 0, .int .i64 12] W fun e w' => e = .returned (.tuple #[]) ∧ Dt B kb (.slice (some ⟨rb, ro, none⟩) bs.length cap) im eK q p g w0 t6 w') := fun W hW => by have h9 := daskX hW b5 4 0 12; rw [ht6] at h9; exact h9
      have A6 : Hid (∀ W, Dt B kb (.slice (some ⟨rb, ro, none⟩) bs.length cap) im eK q p g w0 t6 W → Calls Tryz.prog 133 #[.pointer (some ⟨kb, 0, none⟩), .bool b6, .int .i64 10, .int .i64 0, .int .i64 (bs.length : Int)] W fun e w' => e = .returned (.tuple #[]) ∧ Dt B kb (.slice (some ⟨rb, ro, none⟩) bs.length cap) im eK q p g w0 t7 w') := fun W hW => by have h9 := daskX hW b6 10 0 (bs.length : Int); rw [ht7] at h9; exact h9
      have A7 : Hid (∀ W, Dt B kb (.slice (some ⟨rb, ro, none⟩) bs.length cap) im eK q p g w0 t7 W → Calls Tryz.prog 133 #[.pointer (some ⟨kb, 0, none⟩), .bool b7, .int .i64 12, .int .i64 0, .int .i64 (eN : Int)] W fun e w' => e = .returned (.tuple #[]) ∧ Dt B kb (.slice (some ⟨rb, ro, none⟩) bs.length cap) im eK q p g w0 t8 w') := fun W hW => by have h9 := daskX hW b7 12 0 (eN : Int); rw [ht8] at h9; exact h9
      have A8 : Hid (∀ W, Dt B kb (.slice (some ⟨rb, ro, none⟩) bs.length cap) im eK q p g w0 t8 W → Calls Tryz.prog 133 #[.pointer (some ⟨kb, 0, none⟩), .bool b8, .int .i64 132, .int .i64 0, .int .i64 16] W fun e w' => e = .returned (.tuple #[]) ∧ Dt B kb (.slice (some ⟨rb, ro, none⟩) bs.length cap) im eK q p g w0 t9 w') := fun W hW => by have h9 := daskX hW b8 132 0 16; rw [ht9] at h9; exact h9
      rw [ht0] at H7;clear ht1 ht2 ht3 ht4 ht5 ht6 ht7 ht8 ht9 heN;have HT0 := Lib.hid ht0;clear ht0;have HB0 := Lib.hid hb0;have HB3 := Lib.hid hb3;have i1 : ((n1 : Int) == 1) = b1 := by rw [← hb1]; by_cases h : n1 = 1 <;> simp [h] <;> omega
      have i2 : ((n2 : Int) == 8) = b2 := by rw [← hb2]; by_cases h : n2 = 8 <;> simp [h] <;> omega
      have i4 : ((zr : Int) == 0) = b4 := by rw [← hb4]; by_cases h : zr = 0 <;> simp [h]
      have i5 : decide ((cnt : Int) ≤ 1024) = b5 := by rw [← hb5]; by_cases h : cnt ≤ 1024 <;> simp [h] <;> omega
      have i6 : decide ((eN : Int) ≤ (bs.length : Int)) = b6 := by rw [← hb6]; by_cases h : eN ≤ bs.length <;> simp [h] <;> omega
      have i7 : decide ((bs.length : Int) ≤ (eN : Int)) = b7 := by rw [← hb7]; by_cases h : bs.length ≤ eN <;> simp [h] <;> omega
      have i0 : ((mkS T).toList == [66, 85, 76, 75, 72, 69, 65, 68]) = b0 := (mg_eq HTs.out).trans hb0;have hr : Int.tmod (base : Int) 4096 = ((base % 4096 : Nat) : Int) := rfl;obtain ⟨rr, hrr⟩ : ∃ r, base % 4096 = r := ⟨_, rfl⟩
      rw [hrr] at hb8 hr;have i8 : ((rr : Int) == 0) = b8 := by rw [← hb8]; by_cases h : rr = 0 <;> simp [h]
      have HCrc : Hid (∀ W t, Dt B kb (.slice (some ⟨rb, ro, none⟩) bs.length cap) im eK q p g w0 t W → Calls Tryz.prog 63 #[.slice (some ⟨rb, ro, none⟩) 152 cap] W fun e w' => e = .returned (.int .u32 (Pl.crc (bs.take 152) : Nat)) ∧ w' = W) := fun W t hW => crc_any (HTb.out _ hW.fr) ((HRw.out _ hW.fr).front 152 (by have := HSz.out; omega));have hcap : 152 ≤ cap := by
       obtain ⟨ao, cp, e9, h9, _⟩ := HRw.out _ H7.out.fr
       cases e9
       have := HSz.out;omega
      have hcap2 : (152 : Int) ≤ (cap : Int) := by omega
      obtain ⟨cr, hcr⟩ : ∃ c, Pl.crc (bs.take 152) = c := ⟨_, rfl⟩
      rw [hcr] at HCrc hb3;have i3 : ((sm : Int) == (cr : Int)) = b3 := by rw [← hb3]; by_cases h : sm = cr <;> simp [h] <;> omega
      have HX0 : Hid (∀ W t, Dt B kb (.slice (some ⟨rb, ro, none⟩) bs.length cap) im eK q p g w0 t W → W.cell? ⟨kb, 0, none⟩ = some (.slice (some ⟨rb, ro, none⟩) bs.length cap)) := fun W t hW => (hW.cell 0).trans rdC_raw;clear hb0 hb1 hb2 hb3 hb4 hb5 hb8 HB0 HB3 hrr hcr;go_wp2_with fail
      refine (A0.out _ H7.out).mono ?_;rintro e z0 ⟨rfl, h9⟩;have G0 := Lib.hid h9;clear h9 H7 A0 i0;go_wp2_with fail
      refine (A1.out _ G0.out).mono ?_;rintro e z1 ⟨rfl, h9⟩;have G1 := Lib.hid h9;clear h9 G0 A1 i1;go_wp2_with fail
      refine (A2.out _ G1.out).mono ?_;rintro e z2 ⟨rfl, h9⟩;have G2 := Lib.hid h9;clear h9 G1 A2 i2;have x0 := HX0.out _ _ G2.out;go_wp2_with fail
      refine (HCrc.out _ _ G2.out).mono ?_;rintro e z9 ⟨rfl, h9⟩;subst h9;go_wp2_with fail
      refine (A3.out _ G2.out).mono ?_;rintro e z3 ⟨rfl, h9⟩;have G3 := Lib.hid h9;clear h9 G2 A3 i3 x0;go_wp2_with fail
      refine (A4.out _ G3.out).mono ?_;rintro e z4 ⟨rfl, h9⟩;have G4 := Lib.hid h9;clear h9 G3 A4 i4;go_wp2_with fail
      refine (A5.out _ G4.out).mono ?_;rintro e z5 ⟨rfl, h9⟩;have G5 := Lib.hid h9;clear h9 G4 A5 i5;go_wp2_with fail
      refine (A6.out _ G5.out).mono ?_;rintro e z6 ⟨rfl, h9⟩;have G6 := Lib.hid h9;clear h9 G5 A6 i6;go_wp2_with fail
      refine (A7.out _ G6.out).mono ?_;rintro e z7 ⟨rfl, h9⟩;have G7 := Lib.hid h9;clear h9 G6 A7 i7;go_wp2_with fail
      refine (A8.out _ G7.out).mono ?_;rintro e z8 ⟨rfl, h9⟩;have G8 := Lib.hid h9;clear h9 G7 A8 i8;have hd1 := G8.out.setIm (i := 0) (by decide) (.int .u64 (base : Nat));obtain ⟨u9, hu9⟩ := G8.out.cIm (i := 0) (by decide);have fu9 := G8.out.free 1;simp only [show (1 + 0 : Nat) = 1 from rfl] at hd1 hu9;have HDr := Lib.hid (directoryX hd1 (fun j a b => HP8.out j a b) HEs.out HZr.out);have HSl : Hid (∀ W, Dt B kb (.slice (some ⟨rb, ro, none⟩) bs.length cap) (im.set 0 (.int .u64 (base : Nat))) eK q p g w0 (dirS (entE q s5) bs.length 8 t9) W → Calls Tryz.prog 140 #[.pointer (some ⟨kb, 0, none⟩)] W fun e w' => e = .returned (.tuple #[]) ∧ Dt B kb (.slice (some ⟨rb, ro, none⟩) bs.length cap) (im.set 0 (.int .u64 (base : Nat))) eK q p g w0 (sealS (entE q s5) bs 8 (dirS (entE q s5) bs.length 8 t9)) w') := fun W hW => sealsX hW (fun j a b => HP8.out j a b) HEs.out HRw.out HTb.out (fun e => by
       obtain ⟨e1, e2⟩ := dirS_ok 8 e;exact ⟨HZr.out e1, e2⟩)
      clear hd1 G8 HCrc HX0;go_wp2_with fail
      refine HDr.out.mono ?_;rintro e z10 ⟨rfl, h9⟩;have HS2 := Lib.hid (HSl.out _ h9);clear h9 HDr HSl;go_wp2_with fail
      refine HS2.out.mono ?_;rintro e z11 ⟨rfl, h9⟩;have HF := Lib.hid h9;clear h9 HS2;go_wp2_with fail
      go_end0
      rw [HAs.out];exact ⟨rfl, eK, fun j a b => HP8.out j a b, HF.out⟩
end
end Go.Proofs.YtmfkggngjeolcaaGreatDoor
namespace Go.Proofs.YtmfkggngjeolcaaGreatDoor
open Go.RowKit Bn Dc
namespace Dc
def zeroI : Im := ⟨0, [], [], [], [], [], [], [], [], 0, 0, []⟩
structure A where
 J : Im
 why : Int
 sec : Int
 ad : Int
def secD (k : Nat) (q : Pt) (J : Im) (s : D) : Im × D :=
 match k with
 | 1 => ({ J with rams := (busD q s).1.rams, devs := (busD q s).1.devs }, (busD q s).2)
 | 2 => ({ J with subs := (listD (tenD q) (manyD q s).1 (manyD q s).2).1 }, (listD (tenD q) (manyD q s).1 (manyD q s).2).2)
 | 3 => ({ J with ports := (portsD q J.devs.length s).1 }, (portsD q J.devs.length s).2)
 | 4 => ({ J with regs := (listD (gdD q) (manyD q s).1 (manyD q s).2).1 }, (listD (gdD q) (manyD q s).1 (manyD q s).2).2)
 | 5 => ({ J with chs := (listD (chD q) (manyD q s).1 (manyD q s).2).1 }, (listD (chD q) (manyD q s).1 (manyD q s).2).2)
 | 6 => ({ J with irqs := (listD (iqD q) (manyD q s).1 (manyD q s).2).1 }, (listD (iqD q) (manyD q s).1 (manyD q s).2).2)
 | 7 => ({ J with plans := (plansD q s).1.plans, master := (plansD q s).1.master, start := ((plansD q s).1.start : Int) }, (plansD q s).2)
 | _ => ({ J with tabs := (tabsD q s).1 }, (tabsD q s).2)
def endD (q : Pt) (s : D) : D := formD q (decide (s.rw = 0 ∧ s.pos = q.Z.length)) s.pos s
def qOf (E : Nat → En) (bs : List Nat) (k : Nat) : Pt := ⟨k, (E k).f, (bs.drop (E k).f).take (E k).l⟩
def startD (x : A) : D := ⟨0, 0, x.why, x.sec, x.ad⟩
def partA (E : Nat → En) (bs : List Nat) (k : Nat) (x : A) : A :=
 if x.why ≠ 0 then x else
 ⟨(secD k (qOf E bs k) x.J (startD x)).1, (endD (qOf E bs k) (secD k (qOf E bs k) x.J (startD x)).2).why, (endD (qOf E bs k) (secD k (qOf E bs k) x.J (startD x)).2).sec, (endD (qOf E bs k) (secD k (qOf E bs k) x.J (startD x)).2).ad⟩
def partsA (E : Nat → En) (bs : List Nat) : Nat → A → A
 | 0, x => x
 | k + 1, x => partA E bs (k + 1) (partsA E bs k x)
def hq (bs : List Nat) : Pt := ⟨0, 0, (bs.drop 0).take 160⟩
def hd0 (bs : List Nat) : HdR := hdD (hq bs) ⟨0, 0, 0, 0, 0⟩
def headS (bs : List Nat) : D := sealS (hd0 bs).E bs 8 (dirS (hd0 bs).E bs.length 8 (asksD bs (hd0 bs).x (hd0 bs).s))
def headA (bs : List Nat) : A := ⟨{ zeroI with base := (hd0 bs).x.base }, (endD (hq bs) (headS bs)).why, (endD (hq bs) (headS bs)).sec, (endD (hq bs) (headS bs)).ad⟩
def decA (bs : List Nat) : A := if bs.length < 160 then ⟨zeroI, 10, 0, (bs.length : Int)⟩ else partsA (hd0 bs).E bs 8 (headA bs)
theorem partsA_stop {E : Nat → En} {bs : List Nat} {x : A} {k : Nat} (h : (partsA E bs k x).why ≠ 0) (m : Nat) (hm : k ≤ m) : partsA E bs m x = partsA E bs k x := by
 induction m with
 | zero => rw [show k = 0 by omega]
 | succ m ih =>
  by_cases e : k = m + 1
  ·rw [e]
  ·rw [partsA, ih (by omega), partA, if_pos h]
end Dc
structure ImD (Z : Nat) (w : World) (im : List Value) (J : Im) : Prop where
 base : im[0]? = some (.int .u64 (J.base : Int))
 rams : ∃ v, im[1]? = some v ∧ OwnG 64 2 rgE w Z v J.rams
 devs : ∃ v, im[2]? = some v ∧ OwnG 64 2 rgE w Z v J.devs
 subs : ∃ v, im[3]? = some v ∧ OwnG 66 6 tnE w Z v J.subs
 ports : ∃ v, im[4]? = some v ∧ OwnG 68 1 poE w Z v J.ports
 regs : ∃ v, im[5]? = some v ∧ OwnG 70 4 gdE w Z v J.regs
 chs : ∃ v, im[6]? = some v ∧ OwnG 72 5 lkE w Z v J.chs
 irqs : ∃ v, im[7]? = some v ∧ OwnG 72 5 lkE w Z v J.irqs
 plans : ∃ v, im[8]? = some v ∧ PlO Z w v J.plans
 master : im[9]? = some (.int .i64 J.master)
 start : im[10]? = some (.int .i64 J.start)
 tabs : ∃ v, im[11]? = some v ∧ OwnG 80 512 tbE w Z v J.tabs
theorem ImD.fd {B Z : Nat} {w w' : World} {im : List Value} {J : Im} (h : ImD Z w im J) (hf : Fd B w w') : ImD Z w' im J := by
 obtain ⟨h0, ⟨v1, a1, b1⟩, ⟨v2, a2, b2⟩, ⟨v3, a3, b3⟩, ⟨v4, a4, b4⟩, ⟨v5, a5, b5⟩, ⟨v6, a6, b6⟩, ⟨v7, a7, b7⟩, ⟨v8, a8, b8⟩, h9, h10, ⟨v11, a11, b11⟩⟩ := h;exact ⟨h0, ⟨v1, a1, b1.fd hf (by decide) (by decide)⟩, ⟨v2, a2, b2.fd hf (by decide) (by decide)⟩, ⟨v3, a3, b3.fd hf (by decide) (by decide)⟩, ⟨v4, a4, b4.fd hf (by decide) (by decide)⟩, ⟨v5, a5, b5.fd hf (by decide) (by decide)⟩, ⟨v6, a6, b6.fd hf (by decide) (by decide)⟩, ⟨v7, a7, b7.fd hf (by decide) (by decide)⟩, ⟨v8, a8, b8.fd hf⟩, h9, h10, ⟨v11, a11, b11.fd hf (by decide) (by decide)⟩⟩
def im0 : List Value := [.int .u64 0, .slice none 0 0, .slice none 0 0, .slice none 0 0, .slice none 0 0, .slice none 0 0, .slice none 0 0, .slice none 0 0, .slice none 0 0, .int .i64 0, .int .i64 0, .slice none 0 0]
theorem ImD.zero (Z : Nat) (w : World) (b : Nat) : ImD Z w (im0.set 0 (.int .u64 (b : Int))) { zeroI with base := b } :=
 ⟨rfl, ⟨_, rfl, OwnG.nil _ _ _ _ _⟩, ⟨_, rfl, OwnG.nil _ _ _ _ _⟩, ⟨_, rfl, OwnG.nil _ _ _ _ _⟩, ⟨_, rfl, OwnG.nil _ _ _ _ _⟩, ⟨_, rfl, OwnG.nil _ _ _ _ _⟩, ⟨_, rfl, OwnG.nil _ _ _ _ _⟩, ⟨_, rfl, OwnG.nil _ _ _ _ _⟩, ⟨_, rfl, [], OwnG.nil _ _ _ _ _, .nil⟩, rfl, rfl, ⟨_, rfl, OwnG.nil _ _ _ _ _⟩⟩
section
variable {B kb : Nat} {raw : Value} {im en : List Value} {q : Pt} {p g : Nat} {w0 : World} {s : D} {w w' : World} {J : Im}
def SecQ (k : Nat) (B kb : Nat) (raw : Value) (en : List Value) (q : Pt) (p g : Nat) (w0 : World) (J : Im) (s : D) (w' : World) : Prop := ∃ im', ImD B w' im' (secD k q J s).1 ∧ Dt B kb raw im' en q p g w0 (secD k q J s).2 w'
theorem get_ne {im : List Value} {i j : Nat} {v u : Value} (h : i ≠ j) (e : im[j]? = some u) : (im.set i v)[j]? = some u := by rw [List.getElem?_set_ne h]; exact e
theorem get_eq {im : List Value} {i : Nat} {v : Value} (h : i < im.length) : (im.set i v)[i]? = some v := by rw [List.getElem?_set_self h]
theorem sec1Q (h : Dt B kb raw im en q p g w0 s w) (hJ : ImD B w im J) : Calls Tryz.prog 114 #[.pointer (some ⟨kb, 0, none⟩)] w fun e w' => e = .returned (.tuple #[]) ∧ SecQ 1 B kb raw en q p g w0 J s w' :=
 (rdBusX h.here).mono (fun e w' ⟨he, v1, x2, h1, h2, hd⟩ => by
  have hI := hJ.fd hd.fr;obtain ⟨i0, _, _, ⟨v3, a3, b3⟩, ⟨v4, a4, b4⟩, ⟨v5, a5, b5⟩, ⟨v6, a6, b6⟩, ⟨v7, a7, b7⟩, ⟨v8, a8, b8⟩, h9, h10, ⟨v11, a11, b11⟩⟩ := hI;have hl := h.him;exact ⟨he, _, ⟨get_ne (by decide) (get_ne (by decide) i0), ⟨v1, get_ne (by decide) (get_eq (by omega)), h1⟩, ⟨_, get_eq (by rw [List.length_set]; omega), h2⟩, ⟨v3, get_ne (by decide) (get_ne (by decide) a3), b3⟩, ⟨v4, get_ne (by decide) (get_ne (by decide) a4), b4⟩, ⟨v5, get_ne (by decide) (get_ne (by decide) a5), b5⟩, ⟨v6, get_ne (by decide) (get_ne (by decide) a6), b6⟩, ⟨v7, get_ne (by decide) (get_ne (by decide) a7), b7⟩, ⟨v8, get_ne (by decide) (get_ne (by decide) a8), b8⟩, get_ne (by decide) (get_ne (by decide) h9), get_ne (by decide) (get_ne (by decide) h10), ⟨v11, get_ne (by decide) (get_ne (by decide) a11), b11⟩⟩, hd.since h.fr⟩)
theorem sec2Q (h : Dt B kb raw im en q p g w0 s w) (hJ : ImD B w im J) : Calls Tryz.prog 115 #[.pointer (some ⟨kb, 0, none⟩)] w fun e w' => e = .returned (.tuple #[]) ∧ SecQ 2 B kb raw en q p g w0 J s w' :=
 (rdSubsX h.here).mono (fun e w' ⟨he, v, h1, hd⟩ => by
  have hI := hJ.fd hd.fr;obtain ⟨i0, ⟨v1, a1, b1⟩, ⟨v2, a2, b2⟩, _, ⟨v4, a4, b4⟩, ⟨v5, a5, b5⟩, ⟨v6, a6, b6⟩, ⟨v7, a7, b7⟩, ⟨v8, a8, b8⟩, h9, h10, ⟨v11, a11, b11⟩⟩ := hI;have hl := h.him;exact ⟨he, _, ⟨get_ne (by decide) i0, ⟨v1, get_ne (by decide) a1, b1⟩, ⟨v2, get_ne (by decide) a2, b2⟩, ⟨v, get_eq (by omega), h1⟩, ⟨v4, get_ne (by decide) a4, b4⟩, ⟨v5, get_ne (by decide) a5, b5⟩, ⟨v6, get_ne (by decide) a6, b6⟩, ⟨v7, get_ne (by decide) a7, b7⟩, ⟨v8, get_ne (by decide) a8, b8⟩, get_ne (by decide) h9, get_ne (by decide) h10, ⟨v11, get_ne (by decide) a11, b11⟩⟩, hd.since h.fr⟩)
theorem sec3Q (h : Dt B kb raw im en q p g w0 s w) (hJ : ImD B w im J) : Calls Tryz.prog 116 #[.pointer (some ⟨kb, 0, none⟩)] w fun e w' => e = .returned (.tuple #[]) ∧ SecQ 3 B kb raw en q p g w0 J s w' := by
 obtain ⟨_, e2, o2⟩ := hJ.devs;obtain ⟨da, dc, rfl, _⟩ := o2.form;exact (rdPortsX h.here e2).mono (fun e w' ⟨he, v, h1, hd⟩ => by
  have hI := hJ.fd hd.fr;obtain ⟨i0, ⟨v1, a1, b1⟩, ⟨v2, a2, b2⟩, ⟨v3, a3, b3⟩, _, ⟨v5, a5, b5⟩, ⟨v6, a6, b6⟩, ⟨v7, a7, b7⟩, ⟨v8, a8, b8⟩, h9, h10, ⟨v11, a11, b11⟩⟩ := hI;have hl := h.him;exact ⟨he, _, ⟨get_ne (by decide) i0, ⟨v1, get_ne (by decide) a1, b1⟩, ⟨v2, get_ne (by decide) a2, b2⟩, ⟨v3, get_ne (by decide) a3, b3⟩, ⟨v, get_eq (by omega), h1⟩, ⟨v5, get_ne (by decide) a5, b5⟩, ⟨v6, get_ne (by decide) a6, b6⟩, ⟨v7, get_ne (by decide) a7, b7⟩, ⟨v8, get_ne (by decide) a8, b8⟩, get_ne (by decide) h9, get_ne (by decide) h10, ⟨v11, get_ne (by decide) a11, b11⟩⟩, hd.since h.fr⟩)
theorem sec4Q (h : Dt B kb raw im en q p g w0 s w) (hJ : ImD B w im J) : Calls Tryz.prog 117 #[.pointer (some ⟨kb, 0, none⟩)] w fun e w' => e = .returned (.tuple #[]) ∧ SecQ 4 B kb raw en q p g w0 J s w' :=
 (rdRegsX h.here).mono (fun e w' ⟨he, v, h1, hd⟩ => by
  have hI := hJ.fd hd.fr;obtain ⟨i0, ⟨v1, a1, b1⟩, ⟨v2, a2, b2⟩, ⟨v3, a3, b3⟩, ⟨v4, a4, b4⟩, _, ⟨v6, a6, b6⟩, ⟨v7, a7, b7⟩, ⟨v8, a8, b8⟩, h9, h10, ⟨v11, a11, b11⟩⟩ := hI;have hl := h.him;exact ⟨he, _, ⟨get_ne (by decide) i0, ⟨v1, get_ne (by decide) a1, b1⟩, ⟨v2, get_ne (by decide) a2, b2⟩, ⟨v3, get_ne (by decide) a3, b3⟩, ⟨v4, get_ne (by decide) a4, b4⟩, ⟨v, get_eq (by omega), h1⟩, ⟨v6, get_ne (by decide) a6, b6⟩, ⟨v7, get_ne (by decide) a7, b7⟩, ⟨v8, get_ne (by decide) a8, b8⟩, get_ne (by decide) h9, get_ne (by decide) h10, ⟨v11, get_ne (by decide) a11, b11⟩⟩, hd.since h.fr⟩)
theorem sec5Q (h : Dt B kb raw im en q p g w0 s w) (hJ : ImD B w im J) : Calls Tryz.prog 118 #[.pointer (some ⟨kb, 0, none⟩)] w fun e w' => e = .returned (.tuple #[]) ∧ SecQ 5 B kb raw en q p g w0 J s w' :=
 (rdChsX h.here).mono (fun e w' ⟨he, v, h1, hd⟩ => by
  have hI := hJ.fd hd.fr;obtain ⟨i0, ⟨v1, a1, b1⟩, ⟨v2, a2, b2⟩, ⟨v3, a3, b3⟩, ⟨v4, a4, b4⟩, ⟨v5, a5, b5⟩, _, ⟨v7, a7, b7⟩, ⟨v8, a8, b8⟩, h9, h10, ⟨v11, a11, b11⟩⟩ := hI;have hl := h.him;exact ⟨he, _, ⟨get_ne (by decide) i0, ⟨v1, get_ne (by decide) a1, b1⟩, ⟨v2, get_ne (by decide) a2, b2⟩, ⟨v3, get_ne (by decide) a3, b3⟩, ⟨v4, get_ne (by decide) a4, b4⟩, ⟨v5, get_ne (by decide) a5, b5⟩, ⟨v, get_eq (by omega), h1⟩, ⟨v7, get_ne (by decide) a7, b7⟩, ⟨v8, get_ne (by decide) a8, b8⟩, get_ne (by decide) h9, get_ne (by decide) h10, ⟨v11, get_ne (by decide) a11, b11⟩⟩, hd.since h.fr⟩)
theorem sec6Q (h : Dt B kb raw im en q p g w0 s w) (hJ : ImD B w im J) : Calls Tryz.prog 119 #[.pointer (some ⟨kb, 0, none⟩)] w fun e w' => e = .returned (.tuple #[]) ∧ SecQ 6 B kb raw en q p g w0 J s w' :=
 (rdIrqsX h.here).mono (fun e w' ⟨he, v, h1, hd⟩ => by
  have hI := hJ.fd hd.fr;obtain ⟨i0, ⟨v1, a1, b1⟩, ⟨v2, a2, b2⟩, ⟨v3, a3, b3⟩, ⟨v4, a4, b4⟩, ⟨v5, a5, b5⟩, ⟨v6, a6, b6⟩, _, ⟨v8, a8, b8⟩, h9, h10, ⟨v11, a11, b11⟩⟩ := hI;have hl := h.him;exact ⟨he, _, ⟨get_ne (by decide) i0, ⟨v1, get_ne (by decide) a1, b1⟩, ⟨v2, get_ne (by decide) a2, b2⟩, ⟨v3, get_ne (by decide) a3, b3⟩, ⟨v4, get_ne (by decide) a4, b4⟩, ⟨v5, get_ne (by decide) a5, b5⟩, ⟨v6, get_ne (by decide) a6, b6⟩, ⟨v, get_eq (by omega), h1⟩, ⟨v8, get_ne (by decide) a8, b8⟩, get_ne (by decide) h9, get_ne (by decide) h10, ⟨v11, get_ne (by decide) a11, b11⟩⟩, hd.since h.fr⟩)
theorem sec7Q (h : Dt B kb raw im en q p g w0 s w) (hJ : ImD B w im J) : Calls Tryz.prog 120 #[.pointer (some ⟨kb, 0, none⟩)] w fun e w' => e = .returned (.tuple #[]) ∧ SecQ 7 B kb raw en q p g w0 J s w' :=
 (rdPlansX h.here).mono (fun e w' ⟨he, v, h1, hd⟩ => by
  have hI := hJ.fd hd.fr;obtain ⟨i0, ⟨v1, a1, b1⟩, ⟨v2, a2, b2⟩, ⟨v3, a3, b3⟩, ⟨v4, a4, b4⟩, ⟨v5, a5, b5⟩, ⟨v6, a6, b6⟩, ⟨v7, a7, b7⟩, _, h9, h10, ⟨v11, a11, b11⟩⟩ := hI;have hl := h.him;have k : ∀ {j : Nat} {u a b c : Value}, j ≠ 8 → j ≠ 9 → j ≠ 10 → im[j]? = some u → (((im.set 9 a).set 10 b).set 8 c)[j]? = some u := fun h1 h2 h3 e => get_ne (Ne.symm h1) (get_ne (Ne.symm h3) (get_ne (Ne.symm h2) e));exact ⟨he, _, ⟨k (by decide) (by decide) (by decide) i0, ⟨v1, k (by decide) (by decide) (by decide) a1, b1⟩, ⟨v2, k (by decide) (by decide) (by decide) a2, b2⟩, ⟨v3, k (by decide) (by decide) (by decide) a3, b3⟩, ⟨v4, k (by decide) (by decide) (by decide) a4, b4⟩, ⟨v5, k (by decide) (by decide) (by decide) a5, b5⟩, ⟨v6, k (by decide) (by decide) (by decide) a6, b6⟩, ⟨v7, k (by decide) (by decide) (by decide) a7, b7⟩, ⟨v, get_eq (by simp; omega), h1⟩, get_ne (by decide) (get_ne (by decide) (get_eq (by omega))), get_ne (by decide) (get_eq (by simp; omega)), ⟨v11, k (by decide) (by decide) (by decide) a11, b11⟩⟩, hd.since h.fr⟩)
theorem sec8Q (h : Dt B kb raw im en q p g w0 s w) (hJ : ImD B w im J) (hz : q.Z.length ≤ 4194304000) : Calls Tryz.prog 121 #[.pointer (some ⟨kb, 0, none⟩)] w fun e w' => e = .returned (.tuple #[]) ∧ SecQ 8 B kb raw en q p g w0 J s w' :=
 (rdTabsX h.here hz).mono (fun e w' ⟨he, v, h1, hd⟩ => by
  have hI := hJ.fd hd.fr;obtain ⟨i0, ⟨v1, a1, b1⟩, ⟨v2, a2, b2⟩, ⟨v3, a3, b3⟩, ⟨v4, a4, b4⟩, ⟨v5, a5, b5⟩, ⟨v6, a6, b6⟩, ⟨v7, a7, b7⟩, ⟨v8, a8, b8⟩, h9, h10, _⟩ := hI;have hl := h.him;exact ⟨he, _, ⟨get_ne (by decide) i0, ⟨v1, get_ne (by decide) a1, b1⟩, ⟨v2, get_ne (by decide) a2, b2⟩, ⟨v3, get_ne (by decide) a3, b3⟩, ⟨v4, get_ne (by decide) a4, b4⟩, ⟨v5, get_ne (by decide) a5, b5⟩, ⟨v6, get_ne (by decide) a6, b6⟩, ⟨v7, get_ne (by decide) a7, b7⟩, ⟨v8, get_ne (by decide) a8, b8⟩, get_ne (by decide) h9, get_ne (by decide) h10, ⟨v, get_eq (by omega), h1⟩⟩, hd.since h.fr⟩)
end
end Go.Proofs.YtmfkggngjeolcaaGreatDoor
