/- Reader.Seal, Reader.Bytes. -/
import Derived.Test.YtceljnkbkpgdjaaDoorRPad2
namespace Go.Proofs.YtceljnkbkpgdjaaDoor
open Go.RowKit
theorem Tab.stay {w w' : World} (h : Tab w) (hs : Stay w w') : Tab w' := h.below hs.2
theorem Row.mid {w : World} {g : Nat} {zs : List Nat} (h : Row w g zs) (hz : ∀ z ∈ zs, z < 256) (fr pos : Nat) (h1 : fr ≤ pos) (h2 : pos ≤ zs.length) (h3 : zs.length ≤ 1099511627776) : Sl w (.slice (some ⟨g, fr, none⟩) (pos - fr) (zs.length - fr)) ((zs.drop fr).take (pos - fr)) :=
  h.sl hz fr (pos - fr) (zs.length - fr) (by omega) (by omega) (by unfold maxLen; omega)
theorem num4_le {zs : List Nat} (h : ∀ z ∈ zs, z < 256) : Pl.num 4 zs ≤ 4294967295 := Nat.le_of_lt_succ (Pl.acc_lt h 0 4)
set_option maxRecDepth 100000 in
set_option maxHeartbeats 2000000 in
theorem rseal_yes {w : World} {p g : Nat} {zs : List Nat} {pos fr : Nat} (ht : Tab w) (h : Rd w p g zs pos 0) (h1 : fr ≤ pos) (hl : pos + 4 ≤ zs.length) (hz : Pl.num 4 (zs.drop pos) = Pl.crc ((zs.drop fr).take (pos - fr))) :
    Calls Tryd.prog 57 #[.pointer (some ⟨p, 0, none⟩), .int .i64 (fr : Int)] w fun e w' => e = .returned (.tuple #[]) ∧ Rd w' p g zs (pos + 4) 0 ∧ Keeps (fun k => k = p) w w' := by
  have c1 := h.cell1
  have c2 := h.cell2
  have HR : Hid (Rd w p g zs pos 0) := h
  have HT : Hid (Tab w) := ht
  have h6 := h.2.2.2.2.2
  have HZ : Hid (Pl.num 4 (zs.drop pos) = Pl.crc ((zs.drop fr).take (pos - fr))) := hz
  have HE8 : Hid (Enters Tryd.prog 68) := enters_of Tryd.func68 (by kernel_rfl) rfl
  have HE54 : Hid (Enters Tryd.prog 82) := enters_of Tryd.func82 (by kernel_rfl) rfl
  clear h hz ht
  go_enter Tryd.func57, Tryd.ntmps57
  go_wp2_with fail
  refine (rest_any HR.out).mono ?_
  rintro e w1 ⟨ao, c, rfl, hs, hc, ha, hst⟩
  have HS : Hid (Sl w1 (.slice ao (zs.length - pos) c) (zs.drop pos)) := hs
  have HR1 : Hid (Rd w1 p g zs pos 0) := Stay.rd hst HR.out
  have HS1 : Hid (Stay w w1) := hst
  have HT1 : Hid (Tab w1) := HT.out.stay hst
  clear hs hc ha hst c1 c2
  have HG : Hid (Calls Tryd.prog 81 #[.slice ao (zs.length - pos) c] w1 fun e w' => e = .returned (.tuple #[.int .u32 (Pl.crc ((zs.drop fr).take (pos - fr)) : Nat), .bool true]) ∧ w' = w1) := by
    have := get_u32_yes HS.out (by rw [List.length_drop]; omega)
    rw [HZ.out] at this
    exact this
  have HCr : Hid (Calls Tryd.prog 68 #[.slice (some ⟨g, fr, none⟩) (pos - fr) (zs.length - fr)] w1.drew fun e w' => e = .returned (.int .u32 (Pl.crc ((zs.drop fr).take (pos - fr)) : Nat)) ∧ w' = w1.drew) :=
    crc_any (show Tab w1.drew from HT1.out) (Row.mid (w := w1.drew) HR1.out.2.1 HR1.out.2.2.2.2.1 fr pos h1 (by omega) h6)
  generalize Pl.crc ((zs.drop fr).take (pos - fr)) = s at *
  go_wp2_with fail
  refine HG.out.mono ?_
  rintro e w' ⟨rfl, hw⟩
  rw [hw]
  clear hw w' HG
  have c0 := HR1.out.cell0
  have hpl : pos ≤ zs.length := by omega
  have hne : ¬ zs.length = fr := by omega
  have c1 := HR1.out.cell1
  have t1 := HR1.out.thawed 1
  have HN : Hid (IntKind.i64.wrap ((pos : Int) + 4) = ((pos + 4 : Nat) : Int)) := by show _ = _; rw [IntKind.wrap_i64]; omega
  go_wp2
  go_region_law (refine step_call rfl 68 #[.tmp 55] #[34] rfl HE8.out #[.slice (some ⟨g, fr, none⟩) (pos - fr) (zs.length - fr)] (by first | (simp [Act.eval]; done) | simp [Act.eval, Act.put]) (.int .u32 (s : Nat)) HCr.out ?_)
  all_goals
    go_wp2
    go_region_law (refine step_call rfl 82 #[] #[] rfl HE54.out #[] (by first | (simp; done) | simp [Act.eval, Act.put]) (.int .i64 4) (size_u32 _) ?_)
  all_goals
    go_wp2
    go_end0
    refine ⟨rfl, ?_, ?_⟩
    · rw [HN.out]
      exact (HR1.out.moved (pos + 4) (by omega)).drew
    · exact (HS1.out.keeps).trans (Keeps.setCell w1 p 1 _).drew.drew (fun i _ e => e)
set_option maxRecDepth 100000 in
set_option maxHeartbeats 2000000 in
theorem rseal_sum {w : World} {p g : Nat} {zs : List Nat} {pos fr : Nat} (ht : Tab w) (h : Rd w p g zs pos 0) (h1 : fr ≤ pos) (hl : pos + 4 ≤ zs.length) (hz : Pl.num 4 (zs.drop pos) ≠ Pl.crc ((zs.drop fr).take (pos - fr))) :
    Calls Tryd.prog 57 #[.pointer (some ⟨p, 0, none⟩), .int .i64 (fr : Int)] w fun e w' => e = .returned (.tuple #[]) ∧ Rd w' p g zs pos 11 ∧ Keeps (fun k => k = p) w w' := by
  have c1 := h.cell1
  have c2 := h.cell2
  have HR : Hid (Rd w p g zs pos 0) := h
  have HT : Hid (Tab w) := ht
  have h6 := h.2.2.2.2.2
  have HE8 : Hid (Enters Tryd.prog 68) := enters_of Tryd.func68 (by kernel_rfl) rfl
  clear h ht
  go_enter Tryd.func57, Tryd.ntmps57
  go_wp2_with fail
  refine (rest_any HR.out).mono ?_
  rintro e w1 ⟨ao, c, rfl, hs, hc, ha, hst⟩
  have HS : Hid (Sl w1 (.slice ao (zs.length - pos) c) (zs.drop pos)) := hs
  have HR1 : Hid (Rd w1 p g zs pos 0) := Stay.rd hst HR.out
  have HS1 : Hid (Stay w w1) := hst
  have HT1 : Hid (Tab w1) := HT.out.stay hst
  clear hs hc ha hst c1 c2
  have HG : Hid (Calls Tryd.prog 81 #[.slice ao (zs.length - pos) c] w1 fun e w' => e = .returned (.tuple #[.int .u32 (Pl.num 4 (zs.drop pos) : Nat), .bool true]) ∧ w' = w1) := get_u32_yes HS.out (by rw [List.length_drop]; omega)
  have HCr : Hid (Calls Tryd.prog 68 #[.slice (some ⟨g, fr, none⟩) (pos - fr) (zs.length - fr)] w1.drew fun e w' => e = .returned (.int .u32 (Pl.crc ((zs.drop fr).take (pos - fr)) : Nat)) ∧ w' = w1.drew) :=
    crc_any (show Tab w1.drew from HT1.out) (Row.mid (w := w1.drew) HR1.out.2.1 HR1.out.2.2.2.2.1 fr pos h1 (by omega) h6)
  generalize Pl.crc ((zs.drop fr).take (pos - fr)) = s at *
  generalize Pl.num 4 (zs.drop pos) = s2 at *
  have hsb : (((s2 : Nat) : Int) != ((s : Nat) : Int)) = true := by rw [bne_iff_ne]; omega
  clear hz
  go_wp2_with fail
  refine HG.out.mono ?_
  rintro e w' ⟨rfl, hw⟩
  rw [hw]
  clear hw w' HG
  have c0 := HR1.out.cell0
  have hpl : pos ≤ zs.length := by omega
  have hne : ¬ zs.length = fr := by omega
  have c1 := HR1.out.cell1
  have c2 := HR1.out.cell2
  have t2 := HR1.out.thawed 2
  go_wp2
  go_region_law (refine step_call rfl 68 #[.tmp 55] #[34] rfl HE8.out #[.slice (some ⟨g, fr, none⟩) (pos - fr) (zs.length - fr)] (by first | (simp [Act.eval]; done) | simp [Act.eval, Act.put]) (.int .u32 (s : Nat)) HCr.out ?_)
  all_goals
    go_wp2
    go_end0
    exact ⟨rfl, (HR1.out.refuse 11).drew, (HS1.out.keeps).trans (Keeps.setCell w1 p 2 _).drew (fun i _ e => e)⟩
set_option maxHeartbeats 1000000 in
theorem rseal_short {w : World} {p g : Nat} {zs : List Nat} {pos fr : Nat} (h : Rd w p g zs pos 0) (h1 : fr ≤ pos) (hl : zs.length < pos + 4) :
    Calls Tryd.prog 57 #[.pointer (some ⟨p, 0, none⟩), .int .i64 (fr : Int)] w fun e w' => e = .returned (.tuple #[]) ∧ Rd w' p g zs pos 10 ∧ Keeps (fun k => k = p) w w' := by
  have c1 := h.cell1
  have c2 := h.cell2
  have HR : Hid (Rd w p g zs pos 0) := h
  have h6 := h.2.2.2.2.2
  have h4 := h.2.2.2.1
  clear h
  go_enter Tryd.func57, Tryd.ntmps57
  go_wp2_with fail
  refine (rest_any HR.out).mono ?_
  rintro e w1 ⟨ao, c, rfl, hs, hc, ha, hst⟩
  have HS : Hid (Sl w1 (.slice ao (zs.length - pos) c) (zs.drop pos)) := hs
  have HR1 : Hid (Rd w1 p g zs pos 0) := Stay.rd hst HR.out
  have HS1 : Hid (Stay w w1) := hst
  clear hs hc ha hst c1 c2
  go_wp2_with fail
  refine (get_u32_no HS.out (by rw [List.length_drop]; omega)).mono ?_
  rintro e w' ⟨rfl, hw⟩
  rw [hw]
  clear hw w'
  have c2 := HR1.out.cell2
  have t2 := HR1.out.thawed 2
  go_wp2
  go_end0
  exact ⟨rfl, HR1.out.refuse 10, (HS1.out.keeps).trans (Keeps.setCell w1 p 2 _) (fun i _ e => e)⟩
set_option maxHeartbeats 1000000 in
theorem rseal_bad {w : World} {p g : Nat} {zs : List Nat} {pos : Nat} {fr : Int} (h : Rd w p g zs pos 0) (hf : fr < 0 ∨ (pos : Int) < fr) :
    Calls Tryd.prog 57 #[.pointer (some ⟨p, 0, none⟩), .int .i64 fr] w fun e w' => e = .returned (.tuple #[]) ∧ Rd w' p g zs pos 1 ∧ Keeps (fun k => k = p) w w' := by
  have c1 := h.cell1
  have c2 := h.cell2
  have t2 := h.thawed 2
  have HR : Hid (Rd w p g zs pos 0) := h
  clear h
  by_cases h0 : fr < 0
  · clear hf
    go_enter Tryd.func57, Tryd.ntmps57
    go_wp2
    refine bodyPost_ret (results_none rfl _ _ _) rfl ?_
    exact ⟨rfl, HR.out.refuse 1, Keeps.setCell w p 2 _⟩
  · have hg : (pos : Int) < fr := hf.resolve_left h0
    clear hf
    go_enter Tryd.func57, Tryd.ntmps57
    go_wp2
    refine bodyPost_ret (results_none rfl _ _ _) rfl ?_
    exact ⟨rfl, HR.out.refuse 1, Keeps.setCell w p 2 _⟩
set_option maxHeartbeats 400000 in
theorem rseal_not {w : World} {p g : Nat} {zs : List Nat} {pos : Nat} {fr why : Int} (h : Rd w p g zs pos why) (hw : why ≠ 0) :
    Calls Tryd.prog 57 #[.pointer (some ⟨p, 0, none⟩), .int .i64 fr] w fun e w' => e = .returned (.tuple #[]) ∧ w' = w := by
  have c2 := h.cell2
  have hb : (why != 0) = true := by simpa using hw
  clear h
  go_enter Tryd.func57, Tryd.ntmps57
  go_wp2
  refine bodyPost_ret (results_none rfl _ _ _) rfl ?_
  exact ⟨rfl, rfl⟩
set_option maxHeartbeats 1000000 in
theorem rbytes_yes {w : World} {p g : Nat} {zs : List Nat} {pos n : Nat} (h : Rd w p g zs pos 0) (hl : pos + n ≤ zs.length) :
    Calls Tryd.prog 51 #[.pointer (some ⟨p, 0, none⟩), .int .i64 (n : Int)] w fun e w' => ∃ k, e = .returned (.slice (some ⟨k, 0, none⟩) n n) ∧ w.heap.size ≤ k ∧ Row w' k ((zs.drop pos).take n) ∧ k ≠ p ∧ Rd w' p g zs (pos + n) 0 ∧ Keeps (fun k => k = p) w w' := by
  have c2 := h.cell2
  have HR : Hid (Rd w p g zs pos 0) := h
  have h6 := h.2.2.2.2.2
  clear h
  go_enter Tryd.func51, Tryd.ntmps51
  go_wp2_with fail
  refine (rleft_any HR.out).mono ?_
  rintro e w1 ⟨rfl, hs⟩
  have HS1 : Hid (Stay w w1) := hs
  have HR1 : Hid (Rd w1 p g zs pos 0) := Stay.rd hs HR.out
  clear hs c2
  go_wp2_with fail
  refine (rest_any HR1.out).mono ?_
  rintro e w2 ⟨ao, c, rfl, hs, hc, ha, hst⟩
  have HS2 : Hid (Stay w w2) := HS1.out.trans hst
  have HR2 : Hid (Rd w2 p g zs pos 0) := Stay.rd hst HR1.out
  have HSl : Hid (Sl w2 (.slice ao n c) ((zs.drop pos).take n)) := hs.head n (by rw [List.length_drop]; omega)
  have HLen : Hid (((zs.drop pos).take n).length = n) := by show _ = _; rw [List.length_take, List.length_drop]; omega
  obtain rfl := hc
  clear hs ha hst HR1 HS1
  have HC : Hid (Calls Tryd.prog 44 #[.slice ao n (zs.length - pos)] w2 fun e w' => e = .returned (.slice (some ⟨w2.heap.size, 0, none⟩) n n) ∧ Row w' w2.heap.size ((zs.drop pos).take n) ∧ Below w2.heap.size w2 w') := by
    have := clone_any HSl.out (by rw [HLen.out]; omega)
    rw [HLen.out] at this
    exact this
  go_wp2_with fail
  refine HC.out.mono ?_
  rintro e w3 ⟨rfl, hr, hb⟩
  have HRow : Hid (Row w3 w2.heap.size ((zs.drop pos).take n)) := hr
  have HR3 : Hid (Rd w3 p g zs pos 0) := HR2.out.keeps (Keeps.of_below (S := fun _ => False) hb) (fun h => h) (fun h => h)
  have HK3 : Hid (Keeps (fun k => k = p) w w3) := (HS2.out.keeps).trans (Keeps.of_below (S := fun _ => False) hb) (fun _ _ h => h.elim)
  have HLt : Hid (w.heap.size ≤ w2.heap.size) := HS2.out.2.size
  have HNe : Hid (w2.heap.size ≠ p) := Nat.ne_of_gt HR2.out.lt
  clear hr hb HC
  have c1 := HR3.out.cell1
  have t1 := HR3.out.thawed 1
  go_wp2
  go_ret
  refine ⟨_, rfl, HLt.out, HRow.out.other p 1 _ HNe.out, HNe.out, ?_, HK3.out.trans (Keeps.setCell w3 p 1 _) (fun i _ e => e)⟩
  have := HR3.out.moved (pos + n) hl
  rw [Int.natCast_add] at this
  exact this
end Go.Proofs.YtceljnkbkpgdjaaDoor
