/- WordWrites: tells. Own work. -/
import Derived.Test.YtceljnkbkpgdjaaDoorWwSt2
import Derived.Deep.RegionHeld3
namespace Go.Proofs.YtceljnkbkpgdjaaDoor
open Go.RowKit Go.Shelf
set_option linter.unusedVariables false
/-- what is known of each writer besides -/
def Good (N : Nat) (L : List Wi) : Prop := ∀ x ∈ L, x.zs.length ≤ N ∧ 0 ≤ x.why ∧ x.why ≤ 12
/-- what a step reads of the row: i is one of the writers -/
theorem Wm.look {w0 w : World} {X i : Nat} {c : Nat → Nat} {L : List Wi} {A B : Value} (h : Wm w0 X c L (L.map ptrP) (L.map ptrR) A B w) (hi : i < L.length) : ∃ ga oa ca gb ob cb, A = .slice (some ⟨ga, oa, none⟩) L.length ca ∧ L.length ≤ ca ∧ B = .slice (some ⟨gb, ob, none⟩) L.length cb ∧ L.length ≤ cb ∧ w.cell? ⟨ga, oa + i, none⟩ = some (.pointer (some ⟨L[i].p, 0, none⟩)) ∧ w.cell? ⟨gb, ob + i, none⟩ = some (.pointer (some ⟨L[i].r, 0, none⟩)) := by
  obtain ⟨ga, oa, ca, rfl, h1⟩ := h.ra.some_of (by rw [List.length_map]; omega)
  obtain ⟨gb, ob, cb, rfl, h2⟩ := h.rb.some_of (by rw [List.length_map]; omega)
  have c1 := h.ra.cell i (by rw [List.length_map]; exact hi)
  have c2 := h.rb.cell i (by rw [List.length_map]; exact hi)
  rw [List.getElem_map] at c1 c2
  rw [List.length_map] at h1 h2
  exact ⟨ga, oa, ca, gb, ob, cb, by rw [List.length_map], h1, by rw [List.length_map], h2, c1, c2⟩
set_option maxRecDepth 100000 in
set_option maxHeartbeats 4000000 in
theorem tells_any {w0 w : World} {X i : Nat} {c : Nat → Nat} {L : List Wi} (h : Ws w0 X c L w) (hi : i < L.length) (hg : Good 549755812888 L) (hL : L.length ≤ 1048576) :
    Calls Tryd.prog 7 #[.pointer (some ⟨X, 0, none⟩), .int .i64 (i : Int)] w fun e w' => e = .returned (.bool true) ∧ ∃ c', Ws w0 X c' L w' := by
  have HS := Lib.hid h
  have HG : Hid (L[i].zs.length ≤ 549755812888 ∧ 0 ≤ L[i].why ∧ L[i].why ≤ 12) := hg _ (List.getElem_mem _)
  have HIL := Lib.hid hi
  obtain ⟨n, hn⟩ : ∃ n, L.length = n := ⟨_, rfl⟩
  have HN := Lib.hid hn
  rw [hn] at hi hL
  have ji : (i : Int) < (n : Int) := by omega
  have ji0 : ¬ (i : Int) < 0 := by omega
  clear h hn hg
  go_enter Tryd.func7, Tryd.ntmps7
  go_wp2_with fail
  go_loopw [5] (fun kv wr => ∃ k : Nat, k ≤ 2 ∧ kv = .int .i64 (k : Int) ∧ Hid (∃ c', Ws w0 X c' L wr)) (fun kv _ => 2 - (intOf kv).toNat)
  case atStart => exact ⟨0, by omega, rfl, ⟨c, HS.out⟩⟩
  case round =>
    clear HS
    obtain ⟨k, hk, rfl, HS⟩ := hrel
    by_cases hk2 : k < 2
    · obtain ⟨c1, hs⟩ := HS.out
      have HS1 := Lib.hid hs
      obtain ⟨A, B, hm⟩ := hs.wm
      have HM := Lib.hid hm
      obtain ⟨ga, oa, ca, gb, ob, cb, rfl, ha, rfl, hb, ea, eb⟩ := hm.look HIL.out
      rw [HN.out] at ha hb
      have hoi := hs.ok i HIL.out
      have HO := Lib.hid hoi
      obtain ⟨x0, x1, xl, xt⟩ := hm.cells
      rw [HN.out] at x0 x1
      have HAl := Lib.hid (all_any hoi.wr (by have := HG.out.1; omega))
      generalize hx : L[i] = x at *
      have jk : (k : Int) < 2 := by omega
      have jw : IntKind.i64.wrap ((k : Int) + 1) = ((k + 1 : Nat) : Int) := by rw [IntKind.wrap_i64]; omega
      have HEb := Lib.hid eb
      clear hs hm hoi x1 eb
      go_wp2_with fail
      refine HAl.out.mono ?_
      rintro e w2 ⟨rfl, hrow, hb2⟩
      have HB2 := Lib.hid hb2
      have HRo := Lib.hid hrow
      have hm2 := HM.out.of_below hb2
      obtain ⟨y0, y1, yl, yt⟩ := hm2.cells
      rw [HN.out] at y0 y1
      have ho2 := HO.out.below hb2
      have ya : w2.cell? ⟨ga, oa + i, none⟩ = some (.pointer (some ⟨x.p, 0, none⟩)) := (hb2.cell (p := ⟨ga, oa + i, none⟩) (World.block_lt_of_cell? _ _ ea)).trans ea
      have yb : w2.cell? ⟨gb, ob + i, none⟩ = some (.pointer (some ⟨x.r, 0, none⟩)) := (hb2.cell (p := ⟨gb, ob + i, none⟩) (World.block_lt_of_cell? _ _ HEb.out)).trans HEb.out
      have r0 := ho2.rw.cell0
      have r1 := ho2.rw.cell1
      have hslu := ho2.rw.2.1.sl ho2.rw.2.2.2
      obtain ⟨uo, uc, hu, hu1, hu2, _⟩ := id hslu
      have hsla := hrow.sl ho2.wr.2.2.2 0 x.zs.length x.zs.length (by omega) (Nat.le_refl _) (by have := HG.out.1; unfold maxLen; omega)
      rw [List.drop_zero, List.take_of_length_le (Nat.le_refl _)] at hsla
      have HLn := Lib.hid (len_any (show Wr w2.drew x.p x.v x.zs x.why w0.heap.size from ho2.wr))
      have HEr := Lib.hid (err_any (show Wr w2.drew x.p x.v x.zs x.why w0.heap.size from ho2.wr))
      have HCa : Hid (∀ W, Sl W (.slice (some ⟨wr.heap.size, 0, none⟩) x.zs.length x.zs.length) x.zs → (convert 34 9 (.slice (some ⟨wr.heap.size, 0, none⟩) x.zs.length x.zs.length)).run Tryd.prog W = .ok (.string (mkS x.zs)) W) := fun W hW => conv_str hW
      have cv1 := conv_str (show Sl w2.drew _ _ from hsla)
      have cv2 := conv_str (show Sl w2.drew _ _ from hslu)
      rw [hu] at r0 cv2
      have hwy : IntKind.i64.wrap x.why = x.why := by have := HG.out; rw [IntKind.wrap_i64]; omega
      have HKp := Lib.hid (Ws.tell (w2 := w2.drew) HS1.out hb2.drew (own_of_row (show Row w2.drew wr.heap.size x.zs from hrow) (Nat.le_refl _) rfl rfl (Nat.le_refl _) (by have := HG.out.1; unfold maxLen; omega) List.take_length) (by have := HG.out.1; omega) ho2.wr.2.2.2)
      clear ea HAl hrow hb2 hm2 x0 xl xt ho2 hslu hsla
      go_wp2_with fail
      go_region_held (fun w' => w'.cell? ⟨X, 0, none⟩ = some (.slice (some ⟨ga, oa, none⟩) n ca) ∧ w'.cell? ⟨X, 1, none⟩ = some (.slice (some ⟨gb, ob, none⟩) n cb) ∧ w'.cell? ⟨ga, oa + i, none⟩ = some (.pointer (some ⟨x.p, 0, none⟩)) ∧ w'.cell? ⟨gb, ob + i, none⟩ = some (.pointer (some ⟨x.r, 0, none⟩)) ∧ w'.cell? ⟨x.r, 0, none⟩ = some (.slice uo x.zs.length uc) ∧ w'.cell? ⟨x.r, 1, none⟩ = some (.int .i64 x.why)) (go_keep) (first
        | (go_at_call 17; refine HLn.out.mono ?_; rintro e w' ⟨rfl, hw⟩; have hw := hw.symm; subst hw)
        | (go_at_call 18; refine HEr.out.mono ?_; rintro e w' ⟨rfl, hw⟩; have hw := hw.symm; subst hw))
      all_goals
        go_wp2_with fail
        refine HKp.out.mono ?_
        rintro e w3 ⟨rfl, h3⟩
        have HS3 := Lib.hid h3
        clear h3
        go_wp2_with fail
        go_roundw
        case rel => exact ⟨k + 1, by omega, rfl, HS3⟩
        case measure => simp [intOf]; omega
    · have hk3 : k = 2 := by omega
      subst hk3
      go_wp2_with fail
      go_ret
      exact ⟨rfl, HS.out⟩
end Go.Proofs.YtceljnkbkpgdjaaDoor
