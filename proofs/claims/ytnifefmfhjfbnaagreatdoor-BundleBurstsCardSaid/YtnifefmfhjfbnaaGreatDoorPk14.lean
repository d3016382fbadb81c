import Derived.Test.YtnifefmfhjfbnaaGreatDoorPk10
import Derived.Test.YtnifefmfhjfbnaaGreatDoorPk13
/- string(b); Reader.Text; Reader.Bytes refused. -/
namespace Go.Proofs.YtnifefmfhjfbnaaGreatDoor
open Go.RowKit
theorem conv_str {w : World} {v : Value} {zs : List Nat} (h : Sl w v zs) : (convert 22 9 v).run Tryz.prog w = .ok (.string (mkS zs)) w := by
 by_cases hp : 0 < zs.length
 ·obtain ⟨b, o, cap, rfl, h1, h2, h3, h4⟩ := h.pos hp
  have := run_convert_bytes_back (P := Tryz.prog) w 22 9 5 ⟨b, o, none⟩ cap (zs.map UInt8.ofNat) Tryz.underlying22 Tryz.underlying5 Tryz.underlying9 (fun j hj => by
   have hj' : j < zs.length := by simpa using hj
   rw [Addr.add_lit, h4 j hj']
   have e1 : zs.getD j 0 = zs[j] := by rw [List.getD_eq_getElem?_getD, List.getElem?_eq_getElem hj']; rfl
   have e2 : (zs.map UInt8.ofNat)[j] = UInt8.ofNat zs[j] := by simp
   rw [e1, e2, UInt8.toNat_ofNat_of_lt' (h3 _ (List.getElem_mem hj'))])
  rw [List.length_map] at this
  exact this
 ·obtain rfl : zs = [] := List.eq_nil_of_length_eq_zero (by omega)
  obtain ⟨ao, cap, rfl, h1, h2, h3, h4, h5⟩ := h
  cases ao with
  | some a =>
   have := run_convert_bytes_back (P := Tryz.prog) w 22 9 5 a cap [] Tryz.underlying22 Tryz.underlying5 Tryz.underlying9 (fun j hj => by simp at hj)
   exact this
  | none =>
   obtain rfl := h4 rfl
   show (convert 22 9 (.slice none 0 0)).run Tryz.prog w = _
   rw [run_convert_bytes_string w 22 9 5 none 0 0 Tryz.underlying22 Tryz.underlying5 Tryz.underlying9]
   rfl
/-- string(b) as a step of the walk -/
theorem wpList_conv {w : World} {ops : Array Oper} {rest : List Oper} {o : Oper} {a : Act} {Q : Exit → Act → World → Prop} (x : Operand) (hw : Region.wanted o (yielded ops a.tmps) = true) (ho : o.op = .convert 22 9 x)
  {u : Value} {zs : List Nat} (hx : a.eval x = u) (hsl : Sl w u zs) (h : wpList Tryz.prog ops Q rest (a.put o.dst (.string (mkS zs))) w) : wpList Tryz.prog ops Q (o :: rest) a w := by
 refine wpList_step fun K hK => ?_
 rw [if_pos hw]
 unfold Oper.wp execOp
 simp only [ho, Sem.run_bind, Sem.run_pure, Result.andThen_ok, hx, conv_str hsl]
 exact hK _ _ h
set_option maxHeartbeats 1000000 in
theorem rbytes_short {w : World} {p g : Nat} {zs : List Nat} {pos n : Nat} (h : Rd w p g zs pos 0) (hn : n ≤ 9223372036854775807) (hl : zs.length < pos + n) :
  Calls Tryz.prog 80 #[.pointer (some ⟨p, 0, none⟩), .int .i64 (n : Int)] w fun e w' => e = .returned (.slice none 0 0) ∧ Rd w' p g zs pos 10 ∧ Keeps (fun k => k = p) w w' := by
 have := hn
 have c2 := h.cell2
 have HR : Hid (Rd w p g zs pos 0) := h
 have h6 := h.2.2.2.2.2
 have h4 := h.2.2.2.1
 clear h
 go_enter Tryz.func80, Tryz.ntmps80
 go_wp2_with fail
 refine (rleft_any HR.out).mono ?_
 rintro e w1 ⟨rfl, hs⟩
 have HS1 : Hid (Stay w w1) := hs
 have HR1 : Hid (Rd w1 p g zs pos 0) := Stay.rd hs HR.out
 clear hs c2
 have c2 := HR1.out.cell2
 have t2 := HR1.out.thawed 2
 go_wp2
 go_ret
 exact ⟨rfl, HR1.out.refuse 10, (HS1.out.keeps).trans (Keeps.setCell w1 p 2 _) (fun i _ e => e)⟩
set_option maxHeartbeats 400000 in
theorem rbytes_not {w : World} {p g : Nat} {zs : List Nat} {pos : Nat} {n why : Int} (h : Rd w p g zs pos why) (hw : why ≠ 0) :
  Calls Tryz.prog 80 #[.pointer (some ⟨p, 0, none⟩), .int .i64 n] w fun e w' => e = .returned (.slice none 0 0) ∧ w' = w := by
 have c2 := h.cell2
 have hb : (why != 0) = true := by simpa using hw
 clear h
 go_enter Tryz.func80, Tryz.ntmps80
 go_wp2
 go_ret
 exact ⟨rfl, rfl⟩
end Go.Proofs.YtnifefmfhjfbnaaGreatDoor
/- Bundle: word's Reader, by the state (written by parts/gen_dctak.py). Own work. -/
namespace Go.Proofs.YtnifefmfhjfbnaaGreatDoor
open Go.RowKit Bn Dc
set_option linter.unusedVariables false
set_option linter.unusedSimpArgs false
section
variable {B kb : Nat} {raw : Value} {im en : List Value} {q : Pt} {p g : Nat} {w0 : World} {s : D} {w w' : World}
theorem d_nil (w : World) : Sl w (.slice none 0 0) [] := ⟨none, 0, rfl, by simp, by simp [maxLen], by simp, fun _ => rfl, fun i hi => by simp at hi⟩

theorem tByteX (h : Dt B kb raw im en q p g w0 s w) : Calls Tryz.prog 124 #[.pointer (some ⟨p, 0, none⟩)] w fun e w' => e = .returned (.int .u8 ((takeD q 1 s).1 : Nat)) ∧ Dt B kb raw im en q p g w0 (takeD q 1 s).2 w' := by
 unfold takeD
 by_cases h0 : s.rw = 0
 ·have hr := h.rd
  rw [h0] at hr
  rw [if_pos h0]
  by_cases h1 : s.pos + 1 ≤ q.Z.length
  ·rw [if_pos h1]
   refine (ru8_yes hr h1).mono ?_
   rintro e w1 ⟨rfl, h2, h3⟩
   refine ⟨rfl, ?_⟩
   rw [h0]
   exact h.took h2 h3
  ·rw [if_neg h1]
   refine (ru8_no hr (by omega)).mono ?_
   rintro e w1 ⟨rfl, h2, h3⟩
   exact ⟨rfl, h.took h2 h3⟩
 ·rw [if_neg h0]
  refine (ru8_not h.rd h0).mono ?_
  rintro e w1 ⟨rfl, h2⟩
  subst h2
  exact ⟨rfl, h⟩

theorem tHalfX (h : Dt B kb raw im en q p g w0 s w) : Calls Tryz.prog 81 #[.pointer (some ⟨p, 0, none⟩)] w fun e w' => e = .returned (.int .u16 ((takeD q 2 s).1 : Nat)) ∧ Dt B kb raw im en q p g w0 (takeD q 2 s).2 w' := by
 unfold takeD
 by_cases h0 : s.rw = 0
 ·have hr := h.rd
  rw [h0] at hr
  rw [if_pos h0]
  by_cases h1 : s.pos + 2 ≤ q.Z.length
  ·rw [if_pos h1]
   refine (ru16_yes hr h1).mono ?_
   rintro e w1 ⟨rfl, h2, h3⟩
   refine ⟨rfl, ?_⟩
   rw [h0]
   exact h.took h2 h3
  ·rw [if_neg h1]
   refine (ru16_no hr (by omega)).mono ?_
   rintro e w1 ⟨rfl, h2, h3⟩
   exact ⟨rfl, h.took h2 h3⟩
 ·rw [if_neg h0]
  refine (ru16_not h.rd h0).mono ?_
  rintro e w1 ⟨rfl, h2⟩
  subst h2
  exact ⟨rfl, h⟩

theorem tWordX (h : Dt B kb raw im en q p g w0 s w) : Calls Tryz.prog 82 #[.pointer (some ⟨p, 0, none⟩)] w fun e w' => e = .returned (.int .u32 ((takeD q 4 s).1 : Nat)) ∧ Dt B kb raw im en q p g w0 (takeD q 4 s).2 w' := by
 unfold takeD
 by_cases h0 : s.rw = 0
 ·have hr := h.rd
  rw [h0] at hr
  rw [if_pos h0]
  by_cases h1 : s.pos + 4 ≤ q.Z.length
  ·rw [if_pos h1]
   refine (ru32_yes hr h1).mono ?_
   rintro e w1 ⟨rfl, h2, h3⟩
   refine ⟨rfl, ?_⟩
   rw [h0]
   exact h.took h2 h3
  ·rw [if_neg h1]
   refine (ru32_no hr (by omega)).mono ?_
   rintro e w1 ⟨rfl, h2, h3⟩
   exact ⟨rfl, h.took h2 h3⟩
 ·rw [if_neg h0]
  refine (ru32_not h.rd h0).mono ?_
  rintro e w1 ⟨rfl, h2⟩
  subst h2
  exact ⟨rfl, h⟩

theorem tLongX (h : Dt B kb raw im en q p g w0 s w) : Calls Tryz.prog 83 #[.pointer (some ⟨p, 0, none⟩)] w fun e w' => e = .returned (.int .u64 ((takeD q 8 s).1 : Nat)) ∧ Dt B kb raw im en q p g w0 (takeD q 8 s).2 w' := by
 unfold takeD
 by_cases h0 : s.rw = 0
 ·have hr := h.rd
  rw [h0] at hr
  rw [if_pos h0]
  by_cases h1 : s.pos + 8 ≤ q.Z.length
  ·rw [if_pos h1]
   refine (ru64_yes hr h1).mono ?_
   rintro e w1 ⟨rfl, h2, h3⟩
   refine ⟨rfl, ?_⟩
   rw [h0]
   exact h.took h2 h3
  ·rw [if_neg h1]
   refine (ru64_no hr (by omega)).mono ?_
   rintro e w1 ⟨rfl, h2, h3⟩
   exact ⟨rfl, h.took h2 h3⟩
 ·rw [if_neg h0]
  refine (ru64_not h.rd h0).mono ?_
  rintro e w1 ⟨rfl, h2⟩
  subst h2
  exact ⟨rfl, h⟩

/-- bytes that were handed out: in a row of their own -/
def Bv (w : World) (v : Value) (bs : List Nat) : Prop := (∀ z ∈ bs, z < 256) ∧ bs.length ≤ 1099511627776 ∧ ((v = .slice none 0 0 ∧ bs = []) ∨ ∃ k, v = .slice (some ⟨k, 0, none⟩) bs.length bs.length ∧ Row w k bs)
theorem Bv.sl {v : Value} {bs : List Nat} (h : Bv w v bs) : Sl w v bs := by
 obtain ⟨h1, h2, ⟨rfl, rfl⟩ | ⟨k, rfl, hr⟩⟩ := h
 ·exact d_nil w
 ·have := hr.sl h1 0 bs.length bs.length (by omega) (Nat.le_refl _) (by unfold maxLen; omega)
  rwa [List.drop_zero, List.take_length] at this
theorem Bv.fd {v : Value} {bs : List Nat} (h : Bv w v bs) (hf : Fd B w w') : Bv w' v bs := by
 obtain ⟨h1, h2, h | ⟨k, rfl, hr⟩⟩ := h
 ·exact ⟨h1, h2, .inl h⟩
 ·exact ⟨h1, h2, .inr ⟨k, rfl, (hf.block' ⟨_, hr⟩ (by decide) (by decide)).trans hr⟩⟩
theorem tBytesX (h : Dt B kb raw im en q p g w0 s w) {n : Nat} (hn : n ≤ 9223372036854775807) : Calls Tryz.prog 80 #[.pointer (some ⟨p, 0, none⟩), .int .i64 (n : Int)] w fun e w' => ∃ v, e = .returned v ∧ Bv w' v (bytesD q n s).1 ∧ Dt B kb raw im en q p g w0 (bytesD q n s).2 w' := by
 unfold bytesD
 by_cases h0 : s.rw = 0
 ·have hr := h.rd
  rw [h0] at hr
  rw [if_pos h0]
  by_cases h1 : s.pos + n ≤ q.Z.length
  ·rw [if_pos h1]
   refine (rbytes_yes hr h1).mono ?_
   rintro e w1 ⟨k, rfl, hk, hrow, _, h2, h3⟩
   have hl : ((q.Z.drop s.pos).take n).length = n := by rw [List.length_take, List.length_drop]; omega
   have hz : ∀ z ∈ (q.Z.drop s.pos).take n, z < 256 := fun z hz => h.small z (List.mem_of_mem_drop (List.mem_of_mem_take hz))
   refine ⟨_, rfl, ⟨hz, (by have := h.hlen; omega : ((q.Z.drop s.pos).take n).length ≤ 1099511627776), .inr ⟨k, (by rw [hl] : _ = Value.slice (some ⟨k, 0, none⟩) ((q.Z.drop s.pos).take n).length ((q.Z.drop s.pos).take n).length), hrow⟩⟩, ?_⟩
   rw [h0]
   exact h.took h2 h3
  ·rw [if_neg h1]
   refine (rbytes_short hr hn (by omega)).mono ?_
   rintro e w1 ⟨rfl, h2, h3⟩
   exact ⟨_, rfl, ⟨by simp, by simp, .inl ⟨rfl, rfl⟩⟩, h.took h2 h3⟩
 ·rw [if_neg h0]
  refine (rbytes_not h.rd h0).mono ?_
  rintro e w1 ⟨rfl, h2⟩
  subst h2
  exact ⟨_, rfl, ⟨by simp, by simp, .inl ⟨rfl, rfl⟩⟩, h⟩
theorem tPadX (h : Dt B kb raw im en q p g w0 s w) : Calls Tryz.prog 139 #[.pointer (some ⟨p, 0, none⟩), .int .i64 8] w fun e w' => e = .returned (.tuple #[]) ∧ Dt B kb raw im en q p g w0 (padD q 8 s) w' := by
 unfold padD
 by_cases h0 : s.rw = 0
 ·have hr := h.rd
  rw [h0] at hr
  rw [if_pos h0]
  by_cases h1 : s.pos + gapN s.pos 8 ≤ q.Z.length
  ·rw [if_pos h1]
   by_cases h2 : ∀ z ∈ (q.Z.drop s.pos).take (gapN s.pos 8), z = 0
   ·rw [if_pos (show allZ _ = true from decide_eq_true h2)]
    refine (rpad_yes (al := 8) hr (by decide) (by decide) h1 h2).mono ?_
    rintro e w1 ⟨rfl, h3, h4⟩
    refine ⟨rfl, ?_⟩
    rw [h0]
    exact h.took h3 h4
   ·rw [if_neg (show ¬ allZ _ = true from fun e => h2 (of_decide_eq_true e))]
    refine (rpad_form (al := 8) hr (by decide) (by decide) h1 h2).mono ?_
    rintro e w1 ⟨rfl, h3, h4⟩
    exact ⟨rfl, h.took h3 h4⟩
  ·rw [if_neg h1]
   refine (rpad_short (al := 8) hr (by decide) (by decide) (by omega)).mono ?_
   rintro e w1 ⟨rfl, h3, h4⟩
   exact ⟨rfl, h.took h3 h4⟩
 ·rw [if_neg h0]
  refine (rpad_not (al := 8) h.rd h0).mono ?_
  rintro e w1 ⟨rfl, h2⟩
  subst h2
  exact ⟨rfl, h⟩
end
end Go.Proofs.YtnifefmfhjfbnaaGreatDoor
