/- string(b); Reader.Text; Reader.Bytes refused. -/
import Derived.Test.YtceljnkbkpgdjaaDoorStr
namespace Go.Proofs.YtceljnkbkpgdjaaDoor
open Go.RowKit
theorem conv_str {w : World} {v : Value} {zs : List Nat} (h : Sl w v zs) : (convert 34 9 v).run Tryd.prog w = .ok (.string (mkS zs)) w := by
  by_cases hp : 0 < zs.length
  · obtain ⟨b, o, cap, rfl, h1, h2, h3, h4⟩ := h.pos hp
    have := run_convert_bytes_back (P := Tryd.prog) w 34 9 5 ⟨b, o, none⟩ cap (zs.map UInt8.ofNat) Tryd.underlying34 Tryd.underlying5 Tryd.underlying9 (fun j hj => by
      have hj' : j < zs.length := by simpa using hj
      rw [Addr.add_lit, h4 j hj']
      have e1 : zs.getD j 0 = zs[j] := by rw [List.getD_eq_getElem?_getD, List.getElem?_eq_getElem hj']; rfl
      have e2 : (zs.map UInt8.ofNat)[j] = UInt8.ofNat zs[j] := by simp
      rw [e1, e2, UInt8.toNat_ofNat_of_lt' (h3 _ (List.getElem_mem hj'))])
    rw [List.length_map] at this
    exact this
  · obtain rfl : zs = [] := List.eq_nil_of_length_eq_zero (by omega)
    obtain ⟨ao, cap, rfl, h1, h2, h3, h4, h5⟩ := h
    cases ao with
    | some a =>
      have := run_convert_bytes_back (P := Tryd.prog) w 34 9 5 a cap [] Tryd.underlying34 Tryd.underlying5 Tryd.underlying9 (fun j hj => by simp at hj)
      exact this
    | none =>
      obtain rfl := h4 rfl
      show (convert 34 9 (.slice none 0 0)).run Tryd.prog w = _
      rw [run_convert_bytes_string w 34 9 5 none 0 0 Tryd.underlying34 Tryd.underlying5 Tryd.underlying9]
      rfl
/-- string(b) as a step of the walk -/
theorem wpList_conv {w : World} {ops : Array Oper} {rest : List Oper} {o : Oper} {a : Act} {Q : Exit → Act → World → Prop} (x : Operand) (hw : Region.wanted o (yielded ops a.tmps) = true) (ho : o.op = .convert 34 9 x)
    {u : Value} {zs : List Nat} (hx : a.eval x = u) (hsl : Sl w u zs) (h : wpList Tryd.prog ops Q rest (a.put o.dst (.string (mkS zs))) w) : wpList Tryd.prog ops Q (o :: rest) a w := by
  refine wpList_step fun K hK => ?_
  rw [if_pos hw]
  unfold Oper.wp execOp
  simp only [ho, Sem.run_bind, Sem.run_pure, Result.andThen_ok, hx, conv_str hsl]
  exact hK _ _ h
set_option maxHeartbeats 400000 in
theorem rest_pos {w : World} {p g : Nat} {zs : List Nat} {pos : Nat} {why : Int} (h : Rd w p g zs pos why) (hp : pos < zs.length) :
    Calls Tryd.prog 76 #[.pointer (some ⟨p, 0, none⟩)] w fun e w' => e = .returned (.slice (some ⟨g, pos, none⟩) (zs.length - pos) (zs.length - pos)) ∧ Stay w w' := by
  have c0 := h.cell0
  have c1 := h.cell1
  have h2 := h.2.2.2.2.2
  have hc : ¬ zs.length = pos := by omega
  clear h
  go_enter Tryd.func76, Tryd.ntmps76
  go_wp2
  go_region
  all_goals
    go_wp2
    go_ret
    exact ⟨rfl, rfl, (Below.refl _ _).drew⟩
theorem num2_le {zs : List Nat} (h : ∀ z ∈ zs, z < 256) : Pl.num 2 zs ≤ 65535 := Nat.le_of_lt_succ (Pl.acc_lt h 0 2)
set_option maxRecDepth 100000 in
set_option maxHeartbeats 2000000 in
theorem rtext_yes {w : World} {p g : Nat} {zs : List Nat} {pos h : Nat} {most : Int} (hr : Rd w p g zs pos 0) (hl : pos + 2 + h ≤ zs.length) (hh : Pl.num 2 (zs.drop pos) = h) (hm : (h : Int) ≤ most) :
    Calls Tryd.prog 53 #[.pointer (some ⟨p, 0, none⟩), .int .i64 most] w fun e w' => e = .returned (.string (mkS ((zs.drop (pos + 2)).take h))) ∧ Rd w' p g zs (pos + 2 + h) 0 ∧ Keeps (fun k => k = p) w w' := by
  have c2 := hr.cell2
  have HR : Hid (Rd w p g zs pos 0) := hr
  have h6 := hr.2.2.2.2.2
  have hb : h ≤ 65535 := by rw [← hh]; exact num2_le (drop_small hr.2.2.2.2.1 pos)
  have HH : Hid (Pl.num 2 (zs.drop pos) = h) := hh
  clear hr hh
  go_enter Tryd.func53, Tryd.ntmps53
  go_wp2_with fail
  refine (rest_any HR.out).mono ?_
  rintro e w1 ⟨ao, c, rfl, hs, hc, ha, hst⟩
  have HS : Hid (Sl w1 (.slice ao (zs.length - pos) c) (zs.drop pos)) := hs
  have HR1 : Hid (Rd w1 p g zs pos 0) := Stay.rd hst HR.out
  have HS1 : Hid (Stay w w1) := hst
  clear hs hc ha hst c2
  have HG : Hid (Calls Tryd.prog 77 #[.slice ao (zs.length - pos) c] w1 fun e w' => e = .returned (.tuple #[.int .u16 (h : Nat), .bool true]) ∧ w' = w1) := by
    have := get_u16_yes HS.out (by rw [List.length_drop]; omega)
    rw [HH.out] at this
    exact this
  go_wp2_with fail
  refine HG.out.mono ?_
  rintro e w' ⟨rfl, hw⟩
  rw [hw]
  clear hw w' HG HS
  go_wp2_with fail
  refine (size_u16 _).mono ?_
  rintro e w' ⟨rfl, hw⟩
  rw [hw]
  clear hw w'
  go_wp2_with fail
  refine (rleft_any HR1.out).mono ?_
  rintro e w2 ⟨rfl, hst⟩
  have HR2 : Hid (Rd w2 p g zs pos 0) := Stay.rd hst HR1.out
  have HS2 : Hid (Stay w w2) := HS1.out.trans hst
  clear hst HR1 HS1
  go_wp2_with fail
  refine (rest_pos HR2.out (by omega)).mono ?_
  rintro e w3 ⟨rfl, hst⟩
  have HR3 : Hid (Rd w3 p g zs pos 0) := Stay.rd hst HR2.out
  have HS3 : Hid (Stay w w3) := HS2.out.trans hst
  clear hst HR2 HS2
  have c1 := HR3.out.cell1
  have t1 := HR3.out.thawed 1
  by_cases hc2 : zs.length - pos = 2
  · go_wp2_with (refine wpList_conv (zs := (zs.drop (pos + 2)).take h) (.tmp 53) (by rfl) rfl rfl ?_ ?_)
    · show Sl w3 (.slice (some ⟨g, pos, none⟩) (2 + h - 2) 0) _
      have h0 : h = 0 := by omega
      rw [h0, List.take_zero]
      exact ⟨_, _, rfl, by simp, by simp [maxLen], by simp, by simp, fun i hi => by simp at hi⟩
    · go_ret
      refine ⟨rfl, ?_, (HS3.out.keeps).trans (Keeps.setCell w3 p 1 _) (fun i _ e => e)⟩
      have := HR3.out.moved (pos + 2 + h) hl
      rw [show ((pos + 2 + h : Nat) : Int) = (pos : Int) + (2 + (h : Int)) by omega] at this
      exact this
  · go_wp2_with (refine wpList_conv (zs := (zs.drop (pos + 2)).take h) (.tmp 53) (by rfl) rfl rfl ?_ ?_)
    · show Sl w3 (.slice (some ⟨g, pos + 2, none⟩) (2 + h - 2) (zs.length - pos - 2)) _
      rw [show 2 + h - 2 = h by omega]
      exact HR3.out.2.1.sl HR3.out.2.2.2.2.1 (pos + 2) h (zs.length - pos - 2) (by omega) (by omega) (by unfold maxLen; omega)
    · go_ret
      refine ⟨rfl, ?_, (HS3.out.keeps).trans (Keeps.setCell w3 p 1 _) (fun i _ e => e)⟩
      have := HR3.out.moved (pos + 2 + h) hl
      rw [show ((pos + 2 + h : Nat) : Int) = (pos : Int) + (2 + (h : Int)) by omega] at this
      exact this
set_option maxRecDepth 100000 in
set_option maxHeartbeats 1000000 in
/-- the Half is not there -/
theorem rtext_half {w : World} {p g : Nat} {zs : List Nat} {pos : Nat} {most : Int} (hr : Rd w p g zs pos 0) (hl : zs.length < pos + 2) :
    Calls Tryd.prog 53 #[.pointer (some ⟨p, 0, none⟩), .int .i64 most] w fun e w' => e = .returned (.string ⟨#[]⟩) ∧ Rd w' p g zs pos 10 ∧ Keeps (fun k => k = p) w w' := by
  have c2 := hr.cell2
  have HR : Hid (Rd w p g zs pos 0) := hr
  have h6 := hr.2.2.2.2.2
  have h4 := hr.2.2.2.1
  clear hr
  go_enter Tryd.func53, Tryd.ntmps53
  go_wp2_with fail
  refine (rest_any HR.out).mono ?_
  rintro e w1 ⟨ao, c, rfl, hs, hc, ha, hst⟩
  have HS : Hid (Sl w1 (.slice ao (zs.length - pos) c) (zs.drop pos)) := hs
  have HR1 : Hid (Rd w1 p g zs pos 0) := Stay.rd hst HR.out
  have HS1 : Hid (Stay w w1) := hst
  clear hs hc ha hst c2
  go_wp2_with fail
  refine (get_u16_no HS.out (by rw [List.length_drop]; omega)).mono ?_
  rintro e w' ⟨rfl, hw⟩
  rw [hw]
  clear hw w' HS
  go_wp2_with fail
  refine (size_u16 _).mono ?_
  rintro e w' ⟨rfl, hw⟩
  rw [hw]
  clear hw w'
  have c2 := HR1.out.cell2
  have t2 := HR1.out.thawed 2
  go_wp2
  go_ret
  exact ⟨rfl, HR1.out.refuse 10, (HS1.out.keeps).trans (Keeps.setCell w1 p 2 _) (fun i _ e => e)⟩
set_option maxRecDepth 100000 in
set_option maxHeartbeats 1000000 in
/-- it is longer than may be -/
theorem rtext_long {w : World} {p g : Nat} {zs : List Nat} {pos h : Nat} {most : Int} (hr : Rd w p g zs pos 0) (hl : pos + 2 ≤ zs.length) (hh : Pl.num 2 (zs.drop pos) = h) (hm : most < (h : Int)) :
    Calls Tryd.prog 53 #[.pointer (some ⟨p, 0, none⟩), .int .i64 most] w fun e w' => e = .returned (.string ⟨#[]⟩) ∧ Rd w' p g zs pos 3 ∧ Keeps (fun k => k = p) w w' := by
  have c2 := hr.cell2
  have HR : Hid (Rd w p g zs pos 0) := hr
  have h6 := hr.2.2.2.2.2
  have hb : h ≤ 65535 := by rw [← hh]; exact num2_le (drop_small hr.2.2.2.2.1 pos)
  have HH : Hid (Pl.num 2 (zs.drop pos) = h) := hh
  clear hr hh
  go_enter Tryd.func53, Tryd.ntmps53
  go_wp2_with fail
  refine (rest_any HR.out).mono ?_
  rintro e w1 ⟨ao, c, rfl, hs, hc, ha, hst⟩
  have HS : Hid (Sl w1 (.slice ao (zs.length - pos) c) (zs.drop pos)) := hs
  have HR1 : Hid (Rd w1 p g zs pos 0) := Stay.rd hst HR.out
  have HS1 : Hid (Stay w w1) := hst
  clear hs hc ha hst c2
  have HG : Hid (Calls Tryd.prog 77 #[.slice ao (zs.length - pos) c] w1 fun e w' => e = .returned (.tuple #[.int .u16 (h : Nat), .bool true]) ∧ w' = w1) := by
    have := get_u16_yes HS.out (by rw [List.length_drop]; omega)
    rw [HH.out] at this
    exact this
  go_wp2_with fail
  refine HG.out.mono ?_
  rintro e w' ⟨rfl, hw⟩
  rw [hw]
  clear hw w' HG HS
  go_wp2_with fail
  refine (size_u16 _).mono ?_
  rintro e w' ⟨rfl, hw⟩
  rw [hw]
  clear hw w'
  have c2 := HR1.out.cell2
  have t2 := HR1.out.thawed 2
  go_wp2
  go_ret
  exact ⟨rfl, HR1.out.refuse 3, (HS1.out.keeps).trans (Keeps.setCell w1 p 2 _) (fun i _ e => e)⟩
set_option maxRecDepth 100000 in
set_option maxHeartbeats 1000000 in
/-- its bytes are not there -/
theorem rtext_short {w : World} {p g : Nat} {zs : List Nat} {pos h : Nat} {most : Int} (hr : Rd w p g zs pos 0) (hl : pos + 2 ≤ zs.length) (hh : Pl.num 2 (zs.drop pos) = h) (hm : (h : Int) ≤ most) (hs : zs.length < pos + 2 + h) :
    Calls Tryd.prog 53 #[.pointer (some ⟨p, 0, none⟩), .int .i64 most] w fun e w' => e = .returned (.string ⟨#[]⟩) ∧ Rd w' p g zs pos 10 ∧ Keeps (fun k => k = p) w w' := by
  have c2 := hr.cell2
  have HR : Hid (Rd w p g zs pos 0) := hr
  have h6 := hr.2.2.2.2.2
  have hb : h ≤ 65535 := by rw [← hh]; exact num2_le (drop_small hr.2.2.2.2.1 pos)
  have HH : Hid (Pl.num 2 (zs.drop pos) = h) := hh
  clear hr hh
  go_enter Tryd.func53, Tryd.ntmps53
  go_wp2_with fail
  refine (rest_any HR.out).mono ?_
  rintro e w1 ⟨ao, c, rfl, hs1, hc, ha, hst⟩
  have HS : Hid (Sl w1 (.slice ao (zs.length - pos) c) (zs.drop pos)) := hs1
  have HR1 : Hid (Rd w1 p g zs pos 0) := Stay.rd hst HR.out
  have HS1 : Hid (Stay w w1) := hst
  clear hs1 hc ha hst c2
  have HG : Hid (Calls Tryd.prog 77 #[.slice ao (zs.length - pos) c] w1 fun e w' => e = .returned (.tuple #[.int .u16 (h : Nat), .bool true]) ∧ w' = w1) := by
    have := get_u16_yes HS.out (by rw [List.length_drop]; omega)
    rw [HH.out] at this
    exact this
  go_wp2_with fail
  refine HG.out.mono ?_
  rintro e w' ⟨rfl, hw⟩
  rw [hw]
  clear hw w' HG HS
  go_wp2_with fail
  refine (size_u16 _).mono ?_
  rintro e w' ⟨rfl, hw⟩
  rw [hw]
  clear hw w'
  go_wp2_with fail
  refine (rleft_any HR1.out).mono ?_
  rintro e w2 ⟨rfl, hst⟩
  have HR2 : Hid (Rd w2 p g zs pos 0) := Stay.rd hst HR1.out
  have HS2 : Hid (Stay w w2) := HS1.out.trans hst
  clear hst HR1 HS1
  have c2 := HR2.out.cell2
  have t2 := HR2.out.thawed 2
  go_wp2
  go_ret
  exact ⟨rfl, HR2.out.refuse 10, (HS2.out.keeps).trans (Keeps.setCell w2 p 2 _) (fun i _ e => e)⟩
set_option maxHeartbeats 400000 in
theorem rtext_not {w : World} {p g : Nat} {zs : List Nat} {pos : Nat} {most why : Int} (h : Rd w p g zs pos why) (hw : why ≠ 0) :
    Calls Tryd.prog 53 #[.pointer (some ⟨p, 0, none⟩), .int .i64 most] w fun e w' => e = .returned (.string ⟨#[]⟩) ∧ w' = w := by
  have c2 := h.cell2
  have hb : (why != 0) = true := by simpa using hw
  clear h
  go_enter Tryd.func53, Tryd.ntmps53
  go_wp2
  go_ret
  exact ⟨rfl, rfl⟩
set_option maxHeartbeats 1000000 in
theorem rbytes_short {w : World} {p g : Nat} {zs : List Nat} {pos n : Nat} (h : Rd w p g zs pos 0) (hn : n ≤ 9223372036854775807) (hl : zs.length < pos + n) :
    Calls Tryd.prog 51 #[.pointer (some ⟨p, 0, none⟩), .int .i64 (n : Int)] w fun e w' => e = .returned (.slice none 0 0) ∧ Rd w' p g zs pos 10 ∧ Keeps (fun k => k = p) w w' := by
  have := hn
  have c2 := h.cell2
  have HR : Hid (Rd w p g zs pos 0) := h
  have h6 := h.2.2.2.2.2
  have h4 := h.2.2.2.1
  clear h
  go_enter Tryd.func51, Tryd.ntmps51
  go_wp2_with fail
  refine (rleft_any HR.out).mono ?_
  rintro e w1 ⟨rfl, hs⟩
  have HS1 : Hid (Stay w w1) := hs
  have HR1 : Hid (Rd w1 p g zs pos 0) := Stay.rd hs HR.out
  clear hs c2
  have c2 := HR1.out.cell2
  have t2 := HR1.out.thawed 2
  go_wp2
  go_ret
  exact ⟨rfl, HR1.out.refuse 10, (HS1.out.keeps).trans (Keeps.setCell w1 p 2 _) (fun i _ e => e)⟩
set_option maxHeartbeats 400000 in
theorem rbytes_bad {w : World} {p g : Nat} {zs : List Nat} {pos : Nat} {n : Int} (h : Rd w p g zs pos 0) (hn : n < 0) :
    Calls Tryd.prog 51 #[.pointer (some ⟨p, 0, none⟩), .int .i64 n] w fun e w' => e = .returned (.slice none 0 0) ∧ Rd w' p g zs pos 1 ∧ Keeps (fun k => k = p) w w' := by
  have := hn
  have c2 := h.cell2
  have t2 := h.thawed 2
  have HR : Hid (Rd w p g zs pos 0) := h
  clear h
  go_enter Tryd.func51, Tryd.ntmps51
  go_wp2
  go_ret
  exact ⟨rfl, HR.out.refuse 1, Keeps.setCell w p 2 _⟩
set_option maxHeartbeats 400000 in
theorem rbytes_not {w : World} {p g : Nat} {zs : List Nat} {pos : Nat} {n why : Int} (h : Rd w p g zs pos why) (hw : why ≠ 0) :
    Calls Tryd.prog 51 #[.pointer (some ⟨p, 0, none⟩), .int .i64 n] w fun e w' => e = .returned (.slice none 0 0) ∧ w' = w := by
  have c2 := h.cell2
  have hb : (why != 0) = true := by simpa using hw
  clear h
  go_enter Tryd.func51, Tryd.ntmps51
  go_wp2
  go_ret
  exact ⟨rfl, rfl⟩
end Go.Proofs.YtceljnkbkpgdjaaDoor
