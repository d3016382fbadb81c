import Derived.Test.YtmfkggngjeolcaaGreatDoorPk07
import Derived.Test.YtmfkggngjeolcaaGreatDoorPk08
set_option linter.unusedSimpArgs false
set_option linter.unusedVariables false
set_option maxHeartbeats 1000000
namespace Go.Proofs.YtmfkggngjeolcaaGreatDoor
open Go.RowKit Bn Dc
def FdS (B : Nat) (w : World) (k : Nat) : Prop := B ≤ k ∧ (Tagd w 144 k ∨ Tagd w 191 k)
def Fd (B : Nat) (w w' : World) : Prop := Keeps (FdS B w) w w'
theorem Fd.refl (B : Nat) (w : World) : Fd B w w := Keeps.refl _ _
theorem Fd.trans {B : Nat} {a b c : World} (h : Fd B a b) (k : Fd B b c) : Fd B a c := by
 refine ⟨k.os.trans h.os, k.tape.trans h.tape, k.output.trans h.output, Nat.le_trans h.size k.size, fun i hi hn => ?_⟩;have e := h.block i hi hn;refine (k.block i (Nat.lt_of_lt_of_le hi h.size) (fun hs => hn ?_)).trans e;obtain ⟨h0, hs⟩ := hs;have tg : ∀ t, Tagd b t i → Tagd a t i := fun t ⟨cur, hc⟩ => ⟨cur, e.symm.trans hc⟩
 exact ⟨h0, hs.imp (tg _) (tg _)⟩
theorem Fd.of_below {B : Nat} {w w' : World} (h : Below w.heap.size w w') : Fd B w w' := Keeps.of_below h
theorem Fd.below {B : Nat} {w w' : World} (h : Fd B w w') (hB : B ≤ w.heap.size) : Below B w w' := Keeps.below h hB (fun k hk e => e.1)
theorem Fd.block' {B : Nat} {w w' : World} (h : Fd B w w') {t : TypeId} {g : Nat} (hg : Tagd w t g) (h1 : t ≠ 144) (h2 : t ≠ 191) : w'.heap[g]? = w.heap[g]? := Keeps.block h g (by obtain ⟨c, hc⟩ := hg; exact (Array.getElem?_eq_some_iff.1 hc).1) (by
 rintro ⟨_, e | e⟩
 ·exact h1 (tag_same hg e)
 ·exact h2 (tag_same hg e))
def rdC (raw : Value) (im en : List Value) (pt : Nat) (p : Nat) (sec ad why : Int) : List Value := raw :: (im ++ (en ++ [.int .i64 (pt : Int), .pointer (some ⟨p, 0, none⟩), .int .i64 sec, .int .i64 ad, .int .i64 why]))
section
variable {raw : Value} {im en : List Value} {pt p : Nat} {sec ad why : Int}
theorem rdC_raw : (rdC raw im en pt p sec ad why)[0]? = some raw := rfl
theorem rdC_im {i : Nat} (h : im.length = 12) (hi : i < 12) : (rdC raw im en pt p sec ad why)[1 + i]? = im[i]? := by
 unfold rdC;rw [show 1 + i = i + 1 by omega, List.getElem?_cons_succ, List.getElem?_append_left (by omega)]
theorem rdC_en {i : Nat} (h : im.length = 12) (he : en.length = 45) (hi : i < 45) : (rdC raw im en pt p sec ad why)[13 + i]? = en[i]? := by
 unfold rdC;rw [show 13 + i = (12 + i) + 1 by omega, List.getElem?_cons_succ, List.getElem?_append_right (by omega), h, show 12 + i - 12 = i by omega, List.getElem?_append_left (by omega)]
theorem rdC_end {i : Nat} (h : im.length = 12) (he : en.length = 45) : (rdC raw im en pt p sec ad why)[58 + i]? = [Value.int .i64 (pt : Int), .pointer (some ⟨p, 0, none⟩), .int .i64 sec, .int .i64 ad, .int .i64 why][i]? := by
 unfold rdC;rw [show 58 + i = (57 + i) + 1 by omega, List.getElem?_cons_succ, List.getElem?_append_right (by omega), h, List.getElem?_append_right (by omega), he, show 57 + i - 12 - 45 = i by omega]
theorem rdC_setIm {i : Nat} (h : im.length = 12) (hi : i < 12) (u : Value) : (rdC raw im en pt p sec ad why).set (1 + i) u = rdC raw (im.set i u) en pt p sec ad why := by
 unfold rdC;rw [show 1 + i = i + 1 by omega, List.set_cons_succ, List.set_append_left _ _ (by omega)]
theorem rdC_setEn {i : Nat} (h : im.length = 12) (he : en.length = 45) (hi : i < 45) (u : Value) : (rdC raw im en pt p sec ad why).set (13 + i) u = rdC raw im (en.set i u) pt p sec ad why := by
 unfold rdC;rw [show 13 + i = (12 + i) + 1 by omega, List.set_cons_succ, List.set_append_right _ _ (by omega), h, show 12 + i - 12 = i by omega, List.set_append_left _ _ (by omega)]
theorem rdC_setEnd {i : Nat} (h : im.length = 12) (he : en.length = 45) (u : Value) : (rdC raw im en pt p sec ad why).set (58 + i) u = raw :: (im ++ (en ++ [Value.int .i64 (pt : Int), .pointer (some ⟨p, 0, none⟩), .int .i64 sec, .int .i64 ad, .int .i64 why].set i u)) := by
 unfold rdC;rw [show 58 + i = (57 + i) + 1 by omega, List.set_cons_succ, List.set_append_right _ _ (by omega), h, List.set_append_right _ _ (by omega), he, show 57 + i - 12 - 45 = i by omega]
end
structure Dt (B kb : Nat) (raw : Value) (im en : List Value) (q : Pt) (p g : Nat) (w0 : World) (s : D) (w : World) : Prop where
 blk : w.heap[kb]? = some (.cells (rdC raw im en q.pt p s.sec s.ad s.why).toArray 144 (0, 0))
 him : im.length = 12
 hen : en.length = 45
 hpt : q.pt < 9
 hfi : en[5 * q.pt + 2]? = some (.int .i64 (q.fi : Int))
 hlen : q.fi + q.Z.length ≤ 1099511627776
 rd : Rd w p g q.Z s.pos s.rw
 hB : B ≤ kb ∧ B ≤ p ∧ B ≤ g
 fr : Fd B w0 w
section
variable {B kb : Nat} {raw : Value} {im en : List Value} {q : Pt} {p g : Nat} {w0 : World} {s : D} {w w' : World}
theorem Dt.lt (h : Dt B kb raw im en q p g w0 s w) : kb < w.heap.size := (Array.getElem?_eq_some_iff.1 h.blk).1
theorem Dt.le (h : Dt B kb raw im en q p g w0 s w) : B ≤ w.heap.size := by have := h.lt; have := h.hB.1; omega
theorem Dt.ne (h : Dt B kb raw im en q p g w0 s w) : p ≠ kb := by
 intro e;have h1 := h.rd.1;rw [e, h.blk] at h1;simp at h1
theorem Dt.ne' (h : Dt B kb raw im en q p g w0 s w) : g ≠ kb := by
 intro e;obtain ⟨c, hc⟩ : ∃ c, w.heap[g]? = some (.cells c 5 (0, 0)) := ⟨_, h.rd.2.1⟩
 rw [e, h.blk] at hc;simp at hc
theorem Dt.cell (h : Dt B kb raw im en q p g w0 s w) (i : Nat) : w.cell? ⟨kb, i, none⟩ = (rdC raw im en q.pt p s.sec s.ad s.why)[i]? := by
 rw [cell_of_row _ _ i _ _ _ h.blk, List.getElem?_toArray]
theorem Dt.c58 (h : Dt B kb raw im en q p g w0 s w) : w.cell? ⟨kb, 58, none⟩ = some (.int .i64 (q.pt : Int)) := (h.cell 58).trans (rdC_end (i := 0) h.him h.hen)
theorem Dt.c59 (h : Dt B kb raw im en q p g w0 s w) : w.cell? ⟨kb, 59, none⟩ = some (.pointer (some ⟨p, 0, none⟩)) := (h.cell 59).trans (rdC_end (i := 1) h.him h.hen)
theorem Dt.c60 (h : Dt B kb raw im en q p g w0 s w) : w.cell? ⟨kb, 60, none⟩ = some (.int .i64 s.sec) := (h.cell 60).trans (rdC_end (i := 2) h.him h.hen)
theorem Dt.c61 (h : Dt B kb raw im en q p g w0 s w) : w.cell? ⟨kb, 61, none⟩ = some (.int .i64 s.ad) := (h.cell 61).trans (rdC_end (i := 3) h.him h.hen)
theorem Dt.c62 (h : Dt B kb raw im en q p g w0 s w) : w.cell? ⟨kb, 62, none⟩ = some (.int .i64 s.why) := (h.cell 62).trans (rdC_end (i := 4) h.him h.hen)
theorem Dt.cfi (h : Dt B kb raw im en q p g w0 s w) : w.cell? ⟨kb, 13 + q.pt * 5 + 2, none⟩ = some (.int .i64 (q.fi : Int)) := by
 rw [show 13 + q.pt * 5 + 2 = 13 + (5 * q.pt + 2) by omega];exact (h.cell _).trans ((rdC_en h.him h.hen (by have := h.hpt; omega)).trans h.hfi)
theorem Dt.free (h : Dt B kb raw im en q p g w0 s w) (i : Nat) : w.frozen? ⟨kb, i, none⟩ = false := by simp [World.frozen?, h.blk]
theorem Dt.small (h : Dt B kb raw im en q p g w0 s w) : ∀ z ∈ q.Z, z < 256 := h.rd.2.2.2.2.1
theorem Dt.below (h : Dt B kb raw im en q p g w0 s w) (hb : Below w.heap.size w w') : Dt B kb raw im en q p g w0 s w' :=
 ⟨(hb.block kb h.lt).trans h.blk, h.him, h.hen, h.hpt, h.hfi, h.hlen, h.rd.keeps (Keeps.of_below (S := fun _ => False) hb) (fun h => h) (fun h => h), h.hB, h.fr.trans (Fd.of_below hb)⟩
theorem Dt.took (h : Dt B kb raw im en q p g w0 s w) {n : Nat} {y : Int} (hr : Rd w' p g q.Z n y) (hk : Keeps (fun k => k = p) w w') : Dt B kb raw im en q p g w0 ⟨n, y, s.why, s.sec, s.ad⟩ w' :=
 ⟨(hk.block kb h.lt (fun e => h.ne e.symm)).trans h.blk, h.him, h.hen, h.hpt, h.hfi, h.hlen, hr, h.hB, h.fr.trans (Keeps.mono hk (fun k _ e => by subst e; exact ⟨h.hB.2.1, .inr ⟨_, h.rd.1⟩⟩))⟩
theorem Dt.set (h : Dt B kb raw im en q p g w0 s w) {i : Nat} {u : Value} {im' : List Value} {s' : D} (he : (rdC raw im en q.pt p s.sec s.ad s.why).set i u = rdC raw im' en q.pt p s'.sec s'.ad s'.why) (hl : im'.length = 12) (h1 : s'.pos = s.pos) (h2 : s'.rw = s.rw) : Dt B kb raw im' en q p g w0 s' (w.setCell ⟨kb, i, none⟩ u) := by
 refine ⟨?_, hl, h.hen, h.hpt, h.hfi, h.hlen, ?_, h.hB, h.fr.trans (Keeps.mono (Keeps.setCell w kb i u) (fun k _ e => by subst e; exact ⟨h.hB.1, .inl ⟨_, h.blk⟩⟩))⟩
 ·rw [← he];simp [World.setCell, Array.getElem?_modify, h.blk]
 ·rw [h1, h2];exact h.rd.keeps (Keeps.setCell w kb i u) h.ne h.ne'
theorem Dt.setWhy (h : Dt B kb raw im en q p g w0 s w) (y : Int) : Dt B kb raw im en q p g w0 ⟨s.pos, s.rw, y, s.sec, s.ad⟩ (w.setCell ⟨kb, 62, none⟩ (.int .i64 y)) := h.set (rdC_setEnd (i := 4) h.him h.hen _) h.him rfl rfl
theorem Dt.setSec (h : Dt B kb raw im en q p g w0 s w) (y : Int) : Dt B kb raw im en q p g w0 ⟨s.pos, s.rw, s.why, y, s.ad⟩ (w.setCell ⟨kb, 60, none⟩ (.int .i64 y)) := h.set (rdC_setEnd (i := 2) h.him h.hen _) h.him rfl rfl
theorem Dt.setAd (h : Dt B kb raw im en q p g w0 s w) (y : Int) : Dt B kb raw im en q p g w0 ⟨s.pos, s.rw, s.why, s.sec, y⟩ (w.setCell ⟨kb, 61, none⟩ (.int .i64 y)) := h.set (rdC_setEnd (i := 3) h.him h.hen _) h.him rfl rfl
theorem Dt.setIm (h : Dt B kb raw im en q p g w0 s w) {i : Nat} (hi : i < 12) (u : Value) : Dt B kb raw (im.set i u) en q p g w0 s (w.setCell ⟨kb, 1 + i, none⟩ u) := h.set (rdC_setIm h.him hi u) (by rw [List.length_set]; exact h.him) rfl rfl
theorem Dt.drew (h : Dt B kb raw im en q p g w0 s w) : Dt B kb raw im en q p g w0 s w.drew := h.below ⟨rfl, rfl, rfl, Nat.le_refl _, fun _ _ => rfl⟩
theorem Dt.here (h : Dt B kb raw im en q p g w0 s w) : Dt B kb raw im en q p g w s w := ⟨h.blk, h.him, h.hen, h.hpt, h.hfi, h.hlen, h.rd, h.hB, Fd.refl _ _⟩
theorem Dt.since {w1 : World} (h : Dt B kb raw im en q p g w1 s w) (k : Fd B w0 w1) : Dt B kb raw im en q p g w0 s w := ⟨h.blk, h.him, h.hen, h.hpt, h.hfi, h.hlen, h.rd, h.hB, k.trans h.fr⟩
end
end Go.Proofs.YtmfkggngjeolcaaGreatDoor
namespace Go.Proofs.YtmfkggngjeolcaaGreatDoor
open Go.RowKit
theorem conv_str {w : World} {v : Value} {zs : List Nat} (h : Sl w v zs) : (convert 43 9 v).run Tryz.prog w = .ok (.string (mkS zs)) w := by
 by_cases hp : 0 < zs.length
 ·obtain ⟨b, o, cap, rfl, h1, h2, h3, h4⟩ := h.pos hp;have := run_convert_bytes_back (P := Tryz.prog) w 43 9 5 ⟨b, o, none⟩ cap (zs.map UInt8.ofNat) Tryz.underlying43 Tryz.underlying5 Tryz.underlying9 (fun j hj => by
   have hj' : j < zs.length := by simpa using hj
   rw [Addr.add_lit, h4 j hj'];have e1 : zs.getD j 0 = zs[j] := by rw [List.getD_eq_getElem?_getD, List.getElem?_eq_getElem hj']; rfl
   have e2 : (zs.map UInt8.ofNat)[j] = UInt8.ofNat zs[j] := by simp
   rw [e1, e2, UInt8.toNat_ofNat_of_lt' (h3 _ (List.getElem_mem hj'))])
  rw [List.length_map] at this;exact this
 ·obtain rfl : zs = [] := List.eq_nil_of_length_eq_zero (by omega);obtain ⟨ao, cap, rfl, h1, h2, h3, h4, h5⟩ := h
  cases ao with
  | some a =>
   have := run_convert_bytes_back (P := Tryz.prog) w 43 9 5 a cap [] Tryz.underlying43 Tryz.underlying5 Tryz.underlying9 (fun j hj => by simp at hj);exact this
  | none =>
   obtain rfl := h4 rfl
   show (convert 43 9 (.slice none 0 0)).run Tryz.prog w = _
   rw [run_convert_bytes_string w 43 9 5 none 0 0 Tryz.underlying43 Tryz.underlying5 Tryz.underlying9]
   rfl
theorem wpList_conv {w : World} {ops : Array Oper} {rest : List Oper} {o : Oper} {a : Act} {Q : Exit → Act → World → Prop} (x : Operand) (hw : Region.wanted o (yielded ops a.tmps) = true) (ho : o.op = .convert 43 9 x)
  {u : Value} {zs : List Nat} (hx : a.eval x = u) (hsl : Sl w u zs) (h : wpList Tryz.prog ops Q rest (a.put o.dst (.string (mkS zs))) w) : wpList Tryz.prog ops Q (o :: rest) a w := by
 refine wpList_step fun K hK => ?_;rw [if_pos hw];unfold Oper.wp execOp;simp only [ho, Sem.run_bind, Sem.run_pure, Result.andThen_ok, hx, conv_str hsl];exact hK _ _ h
theorem rbytes_short {w : World} {p g : Nat} {zs : List Nat} {pos n : Nat} (h : Rd w p g zs pos 0) (hn : n ≤ 9223372036854775807) (hl : zs.length < pos + n) :
  Calls Tryz.prog 134 #[.pointer (some ⟨p, 0, none⟩), .int .i64 (n : Int)] w fun e w' => e = .returned (.slice none 0 0) ∧ Rd w' p g zs pos 10 ∧ Keeps (fun k => k = p) w w' := by
 have := hn;have c2 := h.cell2;have HR : Hid (Rd w p g zs pos 0) := h;have h6 := h.2.2.2.2.2;have h4 := h.2.2.2.1;clear h;go_enter Tryz.func134, Tryz.ntmps134
 go_wp2_with fail
 refine (rleft_any HR.out).mono ?_;rintro e w1 ⟨rfl, hs⟩;have HS1 : Hid (Stay w w1) := hs;have HR1 : Hid (Rd w1 p g zs pos 0) := Stay.rd hs HR.out;clear hs c2;have c2 := HR1.out.cell2;have t2 := HR1.out.thawed 2;go_wp2
 go_ret
 exact ⟨rfl, HR1.out.refuse 10, (HS1.out.keeps).trans (Keeps.setCell w1 p 2 _) (fun i _ e => e)⟩
theorem rbytes_not {w : World} {p g : Nat} {zs : List Nat} {pos : Nat} {n why : Int} (h : Rd w p g zs pos why) (hw : why ≠ 0) :
  Calls Tryz.prog 134 #[.pointer (some ⟨p, 0, none⟩), .int .i64 n] w fun e w' => e = .returned (.slice none 0 0) ∧ w' = w := by
 have c2 := h.cell2;have hb : (why != 0) = true := by simpa using hw
 clear h;go_enter Tryz.func134, Tryz.ntmps134
 go_wp2
 go_ret
 exact ⟨rfl, rfl⟩
end Go.Proofs.YtmfkggngjeolcaaGreatDoor
namespace Go.Proofs.YtmfkggngjeolcaaGreatDoor
open Go.RowKit Bn Dc
section
variable {B kb : Nat} {raw : Value} {im en : List Value} {q : Pt} {p g : Nat} {w0 : World} {s : D} {w w' : World}
theorem d_nil (w : World) : Sl w (.slice none 0 0) [] := ⟨none, 0, rfl, by simp, by simp [maxLen], by simp, fun _ => rfl, fun i hi => by simp at hi⟩

theorem tByteX (h : Dt B kb raw im en q p g w0 s w) : Calls Tryz.prog 176 #[.pointer (some ⟨p, 0, none⟩)] w fun e w' => e = .returned (.int .u8 ((takeD q 1 s).1 : Nat)) ∧ Dt B kb raw im en q p g w0 (takeD q 1 s).2 w' := by
 unfold takeD
 by_cases h0 : s.rw = 0
 ·have hr := h.rd;rw [h0] at hr;rw [if_pos h0]
  by_cases h1 : s.pos + 1 ≤ q.Z.length
  ·rw [if_pos h1];refine (ru8_yes hr h1).mono ?_;rintro e w1 ⟨rfl, h2, h3⟩;refine ⟨rfl, ?_⟩;rw [h0];exact h.took h2 h3
  ·rw [if_neg h1];refine (ru8_no hr (by omega)).mono ?_;rintro e w1 ⟨rfl, h2, h3⟩;exact ⟨rfl, h.took h2 h3⟩
 ·rw [if_neg h0];refine (ru8_not h.rd h0).mono ?_;rintro e w1 ⟨rfl, h2⟩;subst h2;exact ⟨rfl, h⟩

theorem tHalfX (h : Dt B kb raw im en q p g w0 s w) : Calls Tryz.prog 135 #[.pointer (some ⟨p, 0, none⟩)] w fun e w' => e = .returned (.int .u16 ((takeD q 2 s).1 : Nat)) ∧ Dt B kb raw im en q p g w0 (takeD q 2 s).2 w' := by
 unfold takeD
 by_cases h0 : s.rw = 0
 ·have hr := h.rd;rw [h0] at hr;rw [if_pos h0]
  by_cases h1 : s.pos + 2 ≤ q.Z.length
  ·rw [if_pos h1];refine (ru16_yes hr h1).mono ?_;rintro e w1 ⟨rfl, h2, h3⟩;refine ⟨rfl, ?_⟩;rw [h0];exact h.took h2 h3
  ·rw [if_neg h1];refine (ru16_no hr (by omega)).mono ?_;rintro e w1 ⟨rfl, h2, h3⟩;exact ⟨rfl, h.took h2 h3⟩
 ·rw [if_neg h0];refine (ru16_not h.rd h0).mono ?_;rintro e w1 ⟨rfl, h2⟩;subst h2;exact ⟨rfl, h⟩

theorem tWordX (h : Dt B kb raw im en q p g w0 s w) : Calls Tryz.prog 136 #[.pointer (some ⟨p, 0, none⟩)] w fun e w' => e = .returned (.int .u32 ((takeD q 4 s).1 : Nat)) ∧ Dt B kb raw im en q p g w0 (takeD q 4 s).2 w' := by
 unfold takeD
 by_cases h0 : s.rw = 0
 ·have hr := h.rd;rw [h0] at hr;rw [if_pos h0]
  by_cases h1 : s.pos + 4 ≤ q.Z.length
  ·rw [if_pos h1];refine (ru32_yes hr h1).mono ?_;rintro e w1 ⟨rfl, h2, h3⟩;refine ⟨rfl, ?_⟩;rw [h0];exact h.took h2 h3
  ·rw [if_neg h1];refine (ru32_no hr (by omega)).mono ?_;rintro e w1 ⟨rfl, h2, h3⟩;exact ⟨rfl, h.took h2 h3⟩
 ·rw [if_neg h0];refine (ru32_not h.rd h0).mono ?_;rintro e w1 ⟨rfl, h2⟩;subst h2;exact ⟨rfl, h⟩

theorem tLongX (h : Dt B kb raw im en q p g w0 s w) : Calls Tryz.prog 137 #[.pointer (some ⟨p, 0, none⟩)] w fun e w' => e = .returned (.int .u64 ((takeD q 8 s).1 : Nat)) ∧ Dt B kb raw im en q p g w0 (takeD q 8 s).2 w' := by
 unfold takeD
 by_cases h0 : s.rw = 0
 ·have hr := h.rd;rw [h0] at hr;rw [if_pos h0]
  by_cases h1 : s.pos + 8 ≤ q.Z.length
  ·rw [if_pos h1];refine (ru64_yes hr h1).mono ?_;rintro e w1 ⟨rfl, h2, h3⟩;refine ⟨rfl, ?_⟩;rw [h0];exact h.took h2 h3
  ·rw [if_neg h1];refine (ru64_no hr (by omega)).mono ?_;rintro e w1 ⟨rfl, h2, h3⟩;exact ⟨rfl, h.took h2 h3⟩
 ·rw [if_neg h0];refine (ru64_not h.rd h0).mono ?_;rintro e w1 ⟨rfl, h2⟩;subst h2;exact ⟨rfl, h⟩

def Bv (w : World) (v : Value) (bs : List Nat) : Prop := (∀ z ∈ bs, z < 256) ∧ bs.length ≤ 1099511627776 ∧ ((v = .slice none 0 0 ∧ bs = []) ∨ ∃ k, v = .slice (some ⟨k, 0, none⟩) bs.length bs.length ∧ Row w k bs)
theorem Bv.sl {v : Value} {bs : List Nat} (h : Bv w v bs) : Sl w v bs := by
 obtain ⟨h1, h2, ⟨rfl, rfl⟩ | ⟨k, rfl, hr⟩⟩ := h
 ·exact d_nil w
 ·have := hr.sl h1 0 bs.length bs.length (by omega) (Nat.le_refl _) (by unfold maxLen; omega)
  rwa [List.drop_zero, List.take_length] at this
theorem Bv.fd {v : Value} {bs : List Nat} (h : Bv w v bs) (hf : Fd B w w') : Bv w' v bs := by
 obtain ⟨h1, h2, h | ⟨k, rfl, hr⟩⟩ := h
 ·exact ⟨h1, h2, .inl h⟩
 ·exact ⟨h1, h2, .inr ⟨k, rfl, (hf.block' ⟨_, hr⟩ (by decide) (by decide)).trans hr⟩⟩
theorem tBytesX (h : Dt B kb raw im en q p g w0 s w) {n : Nat} (hn : n ≤ 9223372036854775807) : Calls Tryz.prog 134 #[.pointer (some ⟨p, 0, none⟩), .int .i64 (n : Int)] w fun e w' => ∃ v, e = .returned v ∧ Bv w' v (bytesD q n s).1 ∧ Dt B kb raw im en q p g w0 (bytesD q n s).2 w' := by
 unfold bytesD
 by_cases h0 : s.rw = 0
 ·have hr := h.rd;rw [h0] at hr;rw [if_pos h0]
  by_cases h1 : s.pos + n ≤ q.Z.length
  ·rw [if_pos h1];refine (rbytes_yes hr h1).mono ?_;rintro e w1 ⟨k, rfl, hk, hrow, _, h2, h3⟩;have hl : ((q.Z.drop s.pos).take n).length = n := by rw [List.length_take, List.length_drop]; omega
   have hz : ∀ z ∈ (q.Z.drop s.pos).take n, z < 256 := fun z hz => h.small z (List.mem_of_mem_drop (List.mem_of_mem_take hz));refine ⟨_, rfl, ⟨hz, (by have := h.hlen; omega : ((q.Z.drop s.pos).take n).length ≤ 1099511627776), .inr ⟨k, (by rw [hl] : _ = Value.slice (some ⟨k, 0, none⟩) ((q.Z.drop s.pos).take n).length ((q.Z.drop s.pos).take n).length), hrow⟩⟩, ?_⟩;rw [h0];exact h.took h2 h3
  ·rw [if_neg h1];refine (rbytes_short hr hn (by omega)).mono ?_;rintro e w1 ⟨rfl, h2, h3⟩;exact ⟨_, rfl, ⟨by simp, by simp, .inl ⟨rfl, rfl⟩⟩, h.took h2 h3⟩
 ·rw [if_neg h0];refine (rbytes_not h.rd h0).mono ?_;rintro e w1 ⟨rfl, h2⟩;subst h2;exact ⟨_, rfl, ⟨by simp, by simp, .inl ⟨rfl, rfl⟩⟩, h⟩
theorem tPadX (h : Dt B kb raw im en q p g w0 s w) : Calls Tryz.prog 190 #[.pointer (some ⟨p, 0, none⟩), .int .i64 8] w fun e w' => e = .returned (.tuple #[]) ∧ Dt B kb raw im en q p g w0 (padD q 8 s) w' := by
 unfold padD
 by_cases h0 : s.rw = 0
 ·have hr := h.rd;rw [h0] at hr;rw [if_pos h0]
  by_cases h1 : s.pos + gapN s.pos 8 ≤ q.Z.length
  ·rw [if_pos h1]
   by_cases h2 : ∀ z ∈ (q.Z.drop s.pos).take (gapN s.pos 8), z = 0
   ·rw [if_pos (show allZ _ = true from decide_eq_true h2)];refine (rpad_yes (al := 8) hr (by decide) (by decide) h1 h2).mono ?_;rintro e w1 ⟨rfl, h3, h4⟩;refine ⟨rfl, ?_⟩;rw [h0];exact h.took h3 h4
   ·rw [if_neg (show ¬ allZ _ = true from fun e => h2 (of_decide_eq_true e))];refine (rpad_form (al := 8) hr (by decide) (by decide) h1 h2).mono ?_;rintro e w1 ⟨rfl, h3, h4⟩;exact ⟨rfl, h.took h3 h4⟩
  ·rw [if_neg h1];refine (rpad_short (al := 8) hr (by decide) (by decide) (by omega)).mono ?_;rintro e w1 ⟨rfl, h3, h4⟩;exact ⟨rfl, h.took h3 h4⟩
 ·rw [if_neg h0];refine (rpad_not (al := 8) h.rd h0).mono ?_;rintro e w1 ⟨rfl, h2⟩;subst h2;exact ⟨rfl, h⟩
end
end Go.Proofs.YtmfkggngjeolcaaGreatDoor
