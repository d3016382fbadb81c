/- The document's own Reader: Seal. Own work. -/
import Derived.Test.YtceljnkbkpgdjaaDoorRdPad
namespace Go.Proofs.YtceljnkbkpgdjaaDoor
open Go.RowKit
set_option linter.unusedVariables false
def sealA (fr : Int) (zs : List Nat) (pos : Nat) (why : Int) : Nat × Int :=
  if why ≠ 0 then (pos, why) else if fr < 0 ∨ (pos : Int) < fr then (pos, 1) else if zs.length < pos + 4 then (pos, 10) else if Pl.num 4 (zs.drop pos) = Pl.crc ((zs.drop fr.toNat).take (pos - fr.toNat)) then (pos + 4, 0) else (pos, 11)
/-- a piece of a slice -/
theorem Sl.piece {w : World} {ao : Option Addr} {cap : Nat} {zs : List Nat} (h : Sl w (.slice ao zs.length cap) zs) (fr to : Nat) (h1 : fr ≤ to) (h2 : to ≤ zs.length) : (cap = fr → Sl w (.slice ao 0 0) ((zs.drop fr).take (to - fr))) ∧ Sl w (.slice (Option.map (fun x => x.add fr) ao) (to - fr) (cap - fr)) ((zs.drop fr).take (to - fr)) := by
  refine ⟨fun hc => ?_, (h.cut (by omega)).head (to - fr) (by rw [List.length_drop]; omega)⟩
  obtain ⟨_, _, e, h3, _⟩ := id h
  simp only [Value.slice.injEq] at e
  have h0 : (zs.drop fr).take (to - fr) = [] := by
    rw [List.drop_eq_nil_of_le (by omega)]
    simp
  rw [h0]
  exact ⟨ao, 0, rfl, Nat.le_refl _, Nat.zero_le _, by simp, fun _ => rfl, fun i hi => absurd hi (by simp)⟩
set_option maxRecDepth 100000 in
set_option maxHeartbeats 4000000 in
theorem rrSeal_any {w : World} {p : Nat} {v : Value} {zs : List Nat} {pos : Nat} {fr why : Int} (h : Rr w p v zs pos why) :
    Calls Tryd.prog 58 #[.pointer (some ⟨p, 0, none⟩), .int .i64 fr] w fun e w' => e = .returned (.tuple #[]) ∧ RrPost w p v zs (sealA fr zs pos why) w' := by
  have c1 := h.cell1
  have c2 := h.cell2
  have t2 := h.thawed 2
  have HR := Lib.hid h
  have hp := h.2.2.2.1
  by_cases h0 : why = 0
  · subst h0
    by_cases h1 : fr < 0
    · rw [show sealA fr zs pos 0 = (pos, 1) by simp [sealA, h1]]
      have HF : Hid (RrPost w p v zs (pos, 1) (w.setCell ⟨p, 2, none⟩ (.int .i64 1))) := ⟨h.refuse 1, Keeps.setCell w p 2 _⟩
      clear h
      go_enter Tryd.func58, Tryd.ntmps58
      go_wp2_with fail
      refine bodyPost_ret (results_none rfl _ _ _) rfl ?_
      exact ⟨rfl, HF.out⟩
    by_cases h2 : (pos : Int) < fr
    · rw [show sealA fr zs pos 0 = (pos, 1) by simp [sealA, h2]]
      have HF : Hid (RrPost w p v zs (pos, 1) (w.setCell ⟨p, 2, none⟩ (.int .i64 1))) := ⟨h.refuse 1, Keeps.setCell w p 2 _⟩
      clear h
      go_enter Tryd.func58, Tryd.ntmps58
      go_wp2_with fail
      refine bodyPost_ret (results_none rfl _ _ _) rfl ?_
      exact ⟨rfl, HF.out⟩
    obtain ⟨m, rfl⟩ := Int.eq_ofNat_of_zero_le (show 0 ≤ fr by omega)
    have hn := rrNum_any (b := 4) h (by decide) (by decide)
    by_cases hl : zs.length < pos + 4
    · rw [show sealA (m : Int) zs pos 0 = (pos, 10) by simp [sealA, h1, h2, hl]]
      rw [show numA 4 zs pos 0 = (0, pos, 10) by simp [numA]; omega] at hn
      have HN := Lib.hid hn
      clear h hn
      go_enter Tryd.func58, Tryd.ntmps58
      go_wp2_with fail
      refine HN.out.mono ?_
      rintro e w1 ⟨rfl, hr1, hk1⟩
      have d2 := hr1.cell2
      have hbk := rback_any (at' := pos) (why := 10) (pos := pos) hr1 hp
      rw [if_neg (by decide)] at hbk
      have HBk := Lib.hid hbk
      have HK1 := Lib.hid hk1
      clear hbk hr1 hk1 HN c1 c2
      go_wp2_with fail
      refine HBk.out.mono ?_
      rintro e w3 ⟨rfl, hr3, hk3⟩
      have HF : Hid (RrPost w p v zs (pos, 10) w3) := ⟨hr3, HK1.out.one hk3⟩
      clear hr3 hk3 HBk
      go_wp2_with fail
      go_end0
      exact ⟨rfl, HF.out⟩
    · obtain ⟨q, hq⟩ : ∃ q, Pl.num 4 (zs.drop pos) = q := ⟨_, rfl⟩
      obtain ⟨C, hC⟩ : ∃ C, Pl.crc ((zs.drop m).take (pos - m)) = C := ⟨_, rfl⟩
      have hq5 : q ≤ 4294967295 := by rw [← hq]; exact num4_le (drop_small h.small pos)
      have hC5 : C ≤ 4294967295 := by rw [← hC]; exact crc_lt (fun z hz => h.small z (List.mem_of_mem_drop (List.mem_of_mem_take hz)))
      rw [show numA 4 zs pos 0 = (q, pos + 4, 0) by simp [numA, ← hq]; omega] at hn
      have HN := Lib.hid hn
      have jC : IntKind.u64.wrap (C : Int) = (C : Int) := by rw [IntKind.wrap_u64]; omega
      obtain ⟨ao, cap, rfl, k1, k2, _⟩ := id h.2.1
      unfold maxLen at k2
      have hmp : m ≤ pos := by omega
      obtain ⟨Rq, hRq⟩ : ∃ Rq : Nat × Int, sealA (m : Int) zs pos 0 = Rq := ⟨_, rfl⟩
      have hRv : Rq = if q = C then (pos + 4, 0) else (pos, 11) := by
        rw [← hRq]
        unfold sealA
        rw [if_neg (by simp), if_neg (by omega), if_neg hl]
        simp only [Int.toNat_natCast, hq, hC]
      rw [hRq]
      have HRv := Lib.hid hRv
      clear hRq hRv h hn
      by_cases hqc : q = C
      · have jq : ((q : Int) != (C : Int)) = false := by rw [hqc]; simp
        have jq2 : ((q : Int) == (C : Int)) = true := by rw [hqc]; simp
        have HRw : Hid (Rq = (pos + 4, 0)) := by show _ = _; rw [HRv.out, if_pos hqc]
        clear HRv
        have hcc : cap ≠ m := by omega
        · go_enter Tryd.func58, Tryd.ntmps58
          go_wp2_with fail
          refine HN.out.mono ?_
          rintro e w1 ⟨rfl, hr1, hk1⟩
          have d0 := hr1.cell0
          have d2 := hr1.cell2
          have hcr := refcrc_any (hr1.2.1.piece m pos hmp hp).2
          rw [hC] at hcr
          have HCr := Lib.hid hcr
          have hbk := rback_any (at' := pos) (why := 0) (pos := pos + 4) hr1 hp
          rw [if_pos rfl] at hbk
          have HBk := Lib.hid hbk
          have HK1 := Lib.hid hk1
          clear hbk hr1 hk1 HN c1 c2 hcr hqc
          go_wp2_with fail
          refine HCr.out.mono ?_
          rintro e w2 ⟨rfl, rfl⟩
          go_wp2_with fail
          refine HBk.out.mono ?_
          rintro e w3 ⟨rfl, hr3, hk3⟩
          have HF : Hid (RrPost w p (.slice ao zs.length cap) zs Rq w3) := by rw [HRw.out]; exact ⟨hr3, HK1.out.one hk3⟩
          clear hr3 hk3 HBk
          go_wp2_with fail
          go_end0
          exact ⟨rfl, HF.out⟩
      · have jq : ((q : Int) != (C : Int)) = true := by simp; omega
        have jq2 : ((q : Int) == (C : Int)) = false := by simp; omega
        have HRw : Hid (Rq = (pos, 11)) := by show _ = _; rw [HRv.out, if_neg hqc]
        clear HRv
        have hcc : cap ≠ m := by omega
        · go_enter Tryd.func58, Tryd.ntmps58
          go_wp2_with fail
          refine HN.out.mono ?_
          rintro e w1 ⟨rfl, hr1, hk1⟩
          have d0 := hr1.cell0
          have d2 := hr1.cell2
          have z2 := hr1.thawed 2
          have hcr := refcrc_any (hr1.2.1.piece m pos hmp hp).2
          rw [hC] at hcr
          have HCr := Lib.hid hcr
          have hbk := rback_any (at' := pos) (why := 11) (pos := pos + 4) ((show Rr w1 p (.slice ao zs.length cap) zs (pos + 4) 0 from hr1).refuse 11) hp
          rw [if_neg (by decide)] at hbk
          have HBk := Lib.hid hbk
          have HK1 := Lib.hid hk1
          clear hbk hr1 hk1 HN c1 c2 hcr hqc
          go_wp2_with fail
          refine HCr.out.mono ?_
          rintro e w2 ⟨rfl, rfl⟩
          go_wp2_with fail
          refine HBk.out.mono ?_
          rintro e w3 ⟨rfl, hr3, hk3⟩
          have HF : Hid (RrPost w p (.slice ao zs.length cap) zs Rq w3) := by rw [HRw.out]; exact ⟨hr3, (HK1.out.one (Keeps.setCell w2 p 2 _)).one hk3⟩
          clear hr3 hk3 HBk
          go_wp2_with fail
          go_end0
          exact ⟨rfl, HF.out⟩
  · rw [show sealA fr zs pos why = (pos, why) by simp [sealA, h0]]
    have hb2 : (why != 0) = true := by simpa using h0
    clear h
    go_enter Tryd.func58, Tryd.ntmps58
    go_wp2_with fail
    refine bodyPost_ret (results_none rfl _ _ _) rfl ?_
    exact ⟨rfl, RrPost.same HR.out (Below.refl _ _)⟩
end Go.Proofs.YtceljnkbkpgdjaaDoor
