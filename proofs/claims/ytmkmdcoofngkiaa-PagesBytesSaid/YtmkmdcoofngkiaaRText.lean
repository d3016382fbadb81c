/- string(b); Reader.Text; Reader.Bytes refused. -/
import Derived.Test.YtmkmdcoofngkiaaStr
namespace Go.Proofs.Ytmkmdcoofngkiaa
open Go.RowKit
theorem conv_str {w : World} {v : Value} {zs : List Nat} (h : Sl w v zs) : (convert 52 9 v).run Try.prog w = .ok (.string (mkS zs)) w := by
  by_cases hp : 0 < zs.length
  · obtain ⟨b, o, cap, rfl, h1, h2, h3, h4⟩ := h.pos hp
    have := run_convert_bytes_back (P := Try.prog) w 52 9 5 ⟨b, o, none⟩ cap (zs.map UInt8.ofNat) Try.underlying52 Try.underlying5 Try.underlying9 (fun j hj => by
      have hj' : j < zs.length := by simpa using hj
      rw [Addr.add_lit, h4 j hj']
      have e1 : zs.getD j 0 = zs[j] := by rw [List.getD_eq_getElem?_getD, List.getElem?_eq_getElem hj']; rfl
      have e2 : (zs.map UInt8.ofNat)[j] = UInt8.ofNat zs[j] := by simp
      rw [e1, e2, UInt8.toNat_ofNat_of_lt' (h3 _ (List.getElem_mem hj'))])
    rw [List.length_map] at this
    exact this
  · obtain rfl : zs = [] := List.eq_nil_of_length_eq_zero (by omega)
    obtain ⟨ao, cap, rfl, h1, h2, h3, h4, h5⟩ := h
    cases ao with
    | some a =>
      have := run_convert_bytes_back (P := Try.prog) w 52 9 5 a cap [] Try.underlying52 Try.underlying5 Try.underlying9 (fun j hj => by simp at hj)
      exact this
    | none =>
      obtain rfl := h4 rfl
      show (convert 52 9 (.slice none 0 0)).run Try.prog w = _
      rw [run_convert_bytes_string w 52 9 5 none 0 0 Try.underlying52 Try.underlying5 Try.underlying9]
      rfl
/-- string(b) as a step of the walk -/
theorem wpList_conv {w : World} {ops : Array Oper} {rest : List Oper} {o : Oper} {a : Act} {Q : Exit → Act → World → Prop} (x : Operand) (hw : Region.wanted o (yielded ops a.tmps) = true) (ho : o.op = .convert 52 9 x)
    {u : Value} {zs : List Nat} (hx : a.eval x = u) (hsl : Sl w u zs) (h : wpList Try.prog ops Q rest (a.put o.dst (.string (mkS zs))) w) : wpList Try.prog ops Q (o :: rest) a w := by
  refine wpList_step fun K hK => ?_
  rw [if_pos hw]
  unfold Oper.wp execOp
  simp only [ho, Sem.run_bind, Sem.run_pure, Result.andThen_ok, hx, conv_str hsl]
  exact hK _ _ h
set_option maxHeartbeats 400000 in
theorem rest_pos {w : World} {p g : Nat} {zs : List Nat} {pos : Nat} {why : Int} (h : Rd w p g zs pos why) (hp : pos < zs.length) :
    Calls Try.prog 80 #[.pointer (some ⟨p, 0, none⟩)] w fun e w' => e = .returned (.slice (some ⟨g, pos, none⟩) (zs.length - pos) (zs.length - pos)) ∧ Stay w w' := by
  have c0 := h.cell0
  have c1 := h.cell1
  have h2 := h.2.2.2.2.2
  have hc : ¬ zs.length = pos := by omega
  clear h
  go_enter Try.func80, Try.ntmps80
  go_wp2
  go_region
  all_goals
    go_wp2
    go_ret
    exact ⟨rfl, rfl, (Below.refl _ _).drew⟩
theorem num2_le {zs : List Nat} (h : ∀ z ∈ zs, z < 256) : Pl.num 2 zs ≤ 65535 := Nat.le_of_lt_succ (Pl.acc_lt h 0 2)
end Go.Proofs.Ytmkmdcoofngkiaa
