/- The document's own Reader: Text, End. Own work. -/
import Derived.Test.YtceljnkbkpgdjaaDoorRdOps
namespace Go.Proofs.YtceljnkbkpgdjaaDoor
open Go.RowKit
set_option linter.unusedVariables false
def textA (most : Int) (zs : List Nat) (pos : Nat) (why : Int) : ByteArray × Nat × Int :=
  if why ≠ 0 then (⟨#[]⟩, pos, why) else if zs.length < pos + 2 then (⟨#[]⟩, pos, 10) else if most < (Pl.num 2 (zs.drop pos) : Int) then (⟨#[]⟩, pos, 3) else if pos + 2 + Pl.num 2 (zs.drop pos) ≤ zs.length then (mkS ((zs.drop (pos + 2)).take (Pl.num 2 (zs.drop pos))), pos + 2 + Pl.num 2 (zs.drop pos), 0) else (⟨#[]⟩, pos, 10)
theorem Rr.small {w : World} {p : Nat} {v : Value} {zs : List Nat} {pos : Nat} {why : Int} (h : Rr w p v zs pos why) : ∀ z ∈ zs, z < 256 := h.2.1.small
set_option maxRecDepth 100000 in
set_option maxHeartbeats 4000000 in
theorem rrText_any {w : World} {p : Nat} {v : Value} {zs : List Nat} {pos : Nat} {most why : Int} (h : Rr w p v zs pos why) :
    Calls Tryd.prog 54 #[.pointer (some ⟨p, 0, none⟩), .int .i64 most] w fun e w' => e = .returned (.string (textA most zs pos why).1) ∧ RrPost w p v zs (textA most zs pos why).2 w' := by
  have c1 := h.cell1
  have c2 := h.cell2
  have HR := Lib.hid h
  have hp := h.2.2.2.1
  by_cases h0 : why = 0
  · subst h0
    by_cases hl : zs.length < pos + 2
    · rw [show textA most zs pos 0 = (⟨#[]⟩, pos, 10) by simp [textA, hl]]
      have hn := rrNum_any (b := 2) h (by decide) (by decide)
      rw [show numA 2 zs pos 0 = (0, pos, 10) by simp [numA]; omega] at hn
      have HN := Lib.hid hn
      clear h hn
      go_enter Tryd.func54, Tryd.ntmps54
      go_wp2_with fail
      refine HN.out.mono ?_
      rintro e w1 ⟨rfl, hr1, hk1⟩
      have d2 := hr1.cell2
      have hb := rrBytes_any (n := 0) hr1 (by decide)
      rw [show bytesA 0 zs pos 10 = ([], pos, 10) by simp [bytesA]] at hb
      have HB := Lib.hid hb
      have HK1 := Lib.hid hk1
      clear hb hr1 hk1 HN c1 c2
      go_wp2_with fail
      refine HB.out.mono ?_
      rintro e w2 ⟨u, rfl, ho, hr2, hk2⟩
      have cv := conv_str (ho.sl (fun z hz => by simp at hz))
      obtain ⟨ua, uc, rfl, _⟩ := ho.sl (fun z hz => by simp at hz)
      have hbk := rback_any (at' := pos) (why := 10) (pos := pos) hr2 hp
      rw [if_neg (by decide)] at hbk
      have HBk := Lib.hid hbk
      have HK2 : Hid (Keeps (fun k => k = p) w w2) := HK1.out.one hk2
      rw [show mkS [] = ⟨#[]⟩ from rfl] at cv
      simp only [List.length_nil] at cv
      clear hbk hr2 hk2 ho HB HK1 d2
      go_wp2_with fail
      refine HBk.out.mono ?_
      rintro e w3 ⟨rfl, hr3, hk3⟩
      have HF : Hid (RrPost w p v zs (pos, 10) w3) := ⟨hr3, HK2.out.one hk3⟩
      clear hr3 hk3 HBk
      go_wp2_with fail
      go_ret
      exact ⟨rfl, HF.out⟩
    · obtain ⟨q, hq⟩ : ∃ q, Pl.num 2 (zs.drop pos) = q := ⟨_, rfl⟩
      have hq5 : q ≤ 65535 := by rw [← hq]; exact num2_le (drop_small h.small pos)
      have hn := rrNum_any (b := 2) h (by decide) (by decide)
      rw [show numA 2 zs pos 0 = (q, pos + 2, 0) by simp [numA, ← hq]; omega] at hn
      have HN := Lib.hid hn
      have jq : IntKind.i64.wrap (q : Int) = (q : Int) := by rw [IntKind.wrap_i64]; omega
      by_cases hm : most < (q : Int)
      · rw [show textA most zs pos 0 = (⟨#[]⟩, pos, 3) by simp [textA, hl, hq, hm]]
        clear h hn
        go_enter Tryd.func54, Tryd.ntmps54
        go_wp2_with fail
        refine HN.out.mono ?_
        rintro e w1 ⟨rfl, hr1, hk1⟩
        have d2 := hr1.cell2
        have z2 := hr1.thawed 2
        have hr1b : Rr (w1.setCell ⟨p, 2, none⟩ (.int .i64 3)) p v zs (pos + 2) 3 := hr1.refuse 3
        have hb := rrBytes_any (n := (q : Int)) hr1b (by omega)
        rw [show bytesA (q : Int) zs (pos + 2) 3 = ([], pos + 2, 3) by simp [bytesA]] at hb
        have HB := Lib.hid hb
        have HK1 : Hid (Keeps (fun k => k = p) w (w1.setCell ⟨p, 2, none⟩ (.int .i64 3))) := hk1.one (Keeps.setCell w1 p 2 _)
        clear hb hr1 hr1b hk1 HN c1 c2
        go_wp2_with fail
        refine HB.out.mono ?_
        rintro e w2 ⟨u, rfl, ho, hr2, hk2⟩
        have cv := conv_str (ho.sl (fun z hz => by simp at hz))
        obtain ⟨ua, uc, rfl, _⟩ := ho.sl (fun z hz => by simp at hz)
        have hbk := rback_any (at' := pos) (why := 3) (pos := pos + 2) hr2 hp
        rw [if_neg (by decide)] at hbk
        have HBk := Lib.hid hbk
        have HK2 : Hid (Keeps (fun k => k = p) w w2) := HK1.out.one hk2
        rw [show mkS [] = ⟨#[]⟩ from rfl] at cv
        simp only [List.length_nil] at cv
        clear hbk hr2 hk2 ho HB HK1 d2
        go_wp2_with fail
        refine HBk.out.mono ?_
        rintro e w3 ⟨rfl, hr3, hk3⟩
        have HF : Hid (RrPost w p v zs (pos, 3) w3) := ⟨hr3, HK2.out.one hk3⟩
        clear hr3 hk3 HBk
        go_wp2_with fail
        go_ret
        exact ⟨rfl, HF.out⟩
      · by_cases he : pos + 2 + q ≤ zs.length
        · rw [show textA most zs pos 0 = (mkS ((zs.drop (pos + 2)).take q), pos + 2 + q, 0) by simp [textA, hl, hq, hm, he]]
          have HSm : Hid (∀ z ∈ (zs.drop (pos + 2)).take q, z < 256) := fun z hz => h.small z (List.mem_of_mem_drop (List.mem_of_mem_take hz))
          clear h hn
          go_enter Tryd.func54, Tryd.ntmps54
          go_wp2_with fail
          refine HN.out.mono ?_
          rintro e w1 ⟨rfl, hr1, hk1⟩
          have d2 := hr1.cell2
          have hb := rrBytes_any (n := (q : Int)) hr1 (by omega)
          rw [show bytesA (q : Int) zs (pos + 2) 0 = ((zs.drop (pos + 2)).take q, pos + 2 + q, 0) by simp [bytesA, he]] at hb
          have HB := Lib.hid hb
          have HK1 := Lib.hid hk1
          clear hb hr1 hk1 HN c1 c2
          go_wp2_with fail
          refine HB.out.mono ?_
          rintro e w2 ⟨u, rfl, ho, hr2, hk2⟩
          have cv := conv_str (ho.sl HSm.out)
          obtain ⟨ua, uc, hu, _⟩ := ho.sl HSm.out
          rw [show ((zs.drop (pos + 2)).take q).length = q by rw [List.length_take, List.length_drop]; omega] at hu
          subst hu
          have hbk := rback_any (at' := pos) (why := 0) (pos := pos + 2 + q) hr2 hp
          rw [if_pos rfl] at hbk
          have HBk := Lib.hid hbk
          have HK2 : Hid (Keeps (fun k => k = p) w w2) := HK1.out.one hk2
          generalize hS : mkS ((zs.drop (pos + 2)).take q) = S at *
          clear hbk hr2 hk2 ho HB HK1 d2
          go_wp2_with fail
          refine HBk.out.mono ?_
          rintro e w3 ⟨rfl, hr3, hk3⟩
          have HF : Hid (RrPost w p v zs (pos + 2 + q, 0) w3) := ⟨hr3, HK2.out.one hk3⟩
          have HS := Lib.hid hS
          clear hr3 hk3 HBk hS
          go_wp2_with fail
          go_ret
          exact ⟨by rw [HS.out]; rfl, HF.out⟩
        · rw [show textA most zs pos 0 = (⟨#[]⟩, pos, 10) by simp [textA, hl, hq, hm, he]]
          clear h hn
          go_enter Tryd.func54, Tryd.ntmps54
          go_wp2_with fail
          refine HN.out.mono ?_
          rintro e w1 ⟨rfl, hr1, hk1⟩
          have d2 := hr1.cell2
          have hb := rrBytes_any (n := (q : Int)) hr1 (by omega)
          rw [show bytesA (q : Int) zs (pos + 2) 0 = ([], pos + 2, 10) by simp [bytesA, he]] at hb
          have HB := Lib.hid hb
          have HK1 := Lib.hid hk1
          clear hb hr1 hk1 HN c1 c2
          go_wp2_with fail
          refine HB.out.mono ?_
          rintro e w2 ⟨u, rfl, ho, hr2, hk2⟩
          have cv := conv_str (ho.sl (fun z hz => by simp at hz))
          obtain ⟨ua, uc, rfl, _⟩ := ho.sl (fun z hz => by simp at hz)
          have hbk := rback_any (at' := pos) (why := 10) (pos := pos + 2) hr2 hp
          rw [if_neg (by decide)] at hbk
          have HBk := Lib.hid hbk
          have HK2 : Hid (Keeps (fun k => k = p) w w2) := HK1.out.one hk2
          rw [show mkS [] = ⟨#[]⟩ from rfl] at cv
          simp only [List.length_nil] at cv
          clear hbk hr2 hk2 ho HB HK1 d2
          go_wp2_with fail
          refine HBk.out.mono ?_
          rintro e w3 ⟨rfl, hr3, hk3⟩
          have HF : Hid (RrPost w p v zs (pos, 10) w3) := ⟨hr3, HK2.out.one hk3⟩
          clear hr3 hk3 HBk
          go_wp2_with fail
          go_ret
          exact ⟨rfl, HF.out⟩
  · rw [show textA most zs pos why = (⟨#[]⟩, pos, why) by simp [textA, h0]]
    have hb2 : (why != 0) = true := by simpa using h0
    clear h
    go_enter Tryd.func54, Tryd.ntmps54
    go_wp2_with fail
    go_ret
    exact ⟨rfl, RrPost.same HR.out (Below.refl _ _)⟩
def endA (zs : List Nat) (pos : Nat) (why : Int) : Int := if why = 0 ∧ pos < zs.length then 12 else why
set_option maxRecDepth 100000 in
set_option maxHeartbeats 2000000 in
theorem rrEnd_any {w : World} {p : Nat} {v : Value} {zs : List Nat} {pos : Nat} {why : Int} (h : Rr w p v zs pos why) :
    Calls Tryd.prog 30 #[.pointer (some ⟨p, 0, none⟩)] w fun e w' => e = .returned (.int .i64 (endA zs pos why)) ∧ w'.heap = w.heap ∧ Below w.heap.size w w' := by
  have c0 := h.cell0
  have c1 := h.cell1
  have c2 := h.cell2
  obtain ⟨ao, cap, rfl, k1, k2, _⟩ := h.2.1
  have HB : Hid (w.drew.heap = w.heap ∧ Below w.heap.size w w.drew) := ⟨rfl, (Below.refl _ _).drew⟩
  clear h
  by_cases h0 : why = 0
  · subst h0
    by_cases hl : pos < zs.length
    · rw [show endA zs pos 0 = 12 by simp [endA, hl]]
      have j1 : (pos : Int) < (zs.length : Int) := by omega
      have jd : decide ((pos : Int) < (zs.length : Int)) = true := decide_eq_true j1
      go_enter Tryd.func30, Tryd.ntmps30
      go_wp2_with fail
      go_region
      go_wp2_with fail
      go_ret
      exact ⟨rfl, HB.out⟩
    · rw [show endA zs pos 0 = 0 by simp [endA, hl]]
      have j1 : ¬ (pos : Int) < (zs.length : Int) := by omega
      have jd : decide ((pos : Int) < (zs.length : Int)) = false := decide_eq_false j1
      go_enter Tryd.func30, Tryd.ntmps30
      go_wp2_with fail
      go_region
      go_wp2_with fail
      go_ret
      exact ⟨rfl, HB.out⟩
  · rw [show endA zs pos why = why by simp [endA, h0]]
    have hb : (why == 0) = false := by simpa using h0
    go_enter Tryd.func30, Tryd.ntmps30
    go_wp2_with fail
    go_region
    go_wp2_with fail
    go_ret
    exact ⟨rfl, HB.out⟩
end Go.Proofs.YtceljnkbkpgdjaaDoor
