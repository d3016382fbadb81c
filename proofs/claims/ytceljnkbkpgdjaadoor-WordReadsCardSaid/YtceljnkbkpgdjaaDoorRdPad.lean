/- The document's own Reader: Pad, Seal. Own work. -/
import Derived.Test.YtceljnkbkpgdjaaDoorRdTxt
namespace Go.Proofs.YtceljnkbkpgdjaaDoor
open Go.RowKit
set_option linter.unusedVariables false
theorem Rr.off {w : World} {p : Nat} {v u : Value} {zs bs : List Nat} {pos : Nat} {why : Int} (h : Rr w p v zs pos why) (hs : Sl w u bs) (hb : bs ≠ []) : ∀ k, u.ownBlock = some k → ¬ k = p := by
  obtain ⟨ao, cap, rfl, _, _, _, _, h5⟩ := hs
  obtain ⟨b, o, rfl, hc⟩ := h5 0 (List.length_pos_iff.2 hb)
  intro k hk e
  cases hk
  subst e
  obtain ⟨va, vc, rfl, _⟩ := h.2.1
  rw [cell_of_row _ _ _ _ _ _ h.1] at hc
  match o, hc with
  | 0, hc => cases hc
  | 1, hc => cases hc
  | 2, hc => cases hc
  | o + 3, hc => cases hc
def padA (al : Int) (zs : List Nat) (pos : Nat) (why : Int) : Nat × Int :=
  if why ≠ 0 then (pos, why) else if al < 1 ∨ 4096 < al then (pos, 1) else if zs.length < pos + gapN pos al.toNat then (pos, 10) else if (∀ z ∈ (zs.drop pos).take (gapN pos al.toNat), z = 0) then (pos + gapN pos al.toNat, 0) else (pos, 5)
/-- the refusal when so many bytes were looked at -/
def formW (bs : List Nat) (i : Nat) : Int := if ∀ z ∈ bs.take i, z = 0 then 0 else 5
theorem formW_zero (bs : List Nat) : formW bs 0 = 0 := by simp [formW]
theorem formW_next {bs : List Nat} {i : Nat} (h : i < bs.length) : formW bs (i + 1) = if bs.getD i 0 = 0 then formW bs i else 5 := by
  have e : bs.take (i + 1) = bs.take i ++ [bs[i]] := List.take_succ_eq_append_getElem h
  have g : bs.getD i 0 = bs[i] := by rw [List.getD_eq_getElem?_getD, List.getElem?_eq_getElem h]; rfl
  unfold formW
  rw [e, g]
  by_cases hz : bs[i] = 0
  · rw [if_pos hz]
    have : (∀ z ∈ bs.take i ++ [bs[i]], z = 0) ↔ ∀ z ∈ bs.take i, z = 0 := by
      refine ⟨fun h z hz' => h z (List.mem_append_left _ hz'), fun h z hz' => ?_⟩
      rcases List.mem_append.1 hz' with h1 | h1
      · exact h z h1
      · rw [List.mem_singleton] at h1; rw [h1, hz]
    simp only [this]
  · rw [if_neg hz, if_neg (fun h => hz (h _ (List.mem_append_right _ (List.mem_singleton.2 rfl))))]
set_option maxRecDepth 100000 in
set_option maxHeartbeats 4000000 in
theorem rrPad_any {w : World} {p : Nat} {v : Value} {zs : List Nat} {pos : Nat} {al why : Int} (h : Rr w p v zs pos why) :
    Calls Tryd.prog 56 #[.pointer (some ⟨p, 0, none⟩), .int .i64 al] w fun e w' => e = .returned (.tuple #[]) ∧ RrPost w p v zs (padA al zs pos why) w' := by
  have c1 := h.cell1
  have c2 := h.cell2
  have t2 := h.thawed 2
  have HR := Lib.hid h
  have hp := h.2.2.2.1
  by_cases h0 : why = 0
  · subst h0
    by_cases h1 : al < 1
    · rw [show padA al zs pos 0 = (pos, 1) by simp [padA, h1]]
      have HF : Hid (RrPost w p v zs (pos, 1) (w.setCell ⟨p, 2, none⟩ (.int .i64 1))) := ⟨h.refuse 1, Keeps.setCell w p 2 _⟩
      clear h
      go_enter Tryd.func56, Tryd.ntmps56
      go_wp2_with fail
      refine bodyPost_ret (results_none rfl _ _ _) rfl ?_
      exact ⟨rfl, HF.out⟩
    by_cases h2 : 4096 < al
    · rw [show padA al zs pos 0 = (pos, 1) by simp [padA, h2]]
      have HF : Hid (RrPost w p v zs (pos, 1) (w.setCell ⟨p, 2, none⟩ (.int .i64 1))) := ⟨h.refuse 1, Keeps.setCell w p 2 _⟩
      clear h
      go_enter Tryd.func56, Tryd.ntmps56
      go_wp2_with fail
      refine bodyPost_ret (results_none rfl _ _ _) rfl ?_
      exact ⟨rfl, HF.out⟩
    obtain ⟨m, rfl⟩ := Int.eq_ofNat_of_zero_le (show 0 ≤ al by omega)
    obtain ⟨g, hg⟩ : ∃ g, gapN pos m = g := ⟨_, rfl⟩
    have HG : Hid (∀ W, Calls Tryd.prog 67 #[.int .i64 (pos : Int), .int .i64 (m : Int)] W fun e w' => e = .returned (.int .i64 (g : Int)) ∧ w' = W) := fun W => by
      rw [← hg]
      exact rgap_any pos m W (by omega) (by omega)
    by_cases hl : zs.length < pos + g
    · rw [show padA (m : Int) zs pos 0 = (pos, 10) by simp [padA, h1, h2, hg, hl]]
      have HT := Lib.hid (rtake_no (n := g) h hl)
      clear h
      go_enter Tryd.func56, Tryd.ntmps56
      go_wp2_with fail
      refine (HG.out _).mono ?_
      rintro e w1 ⟨rfl, rfl⟩
      go_wp2_with fail
      refine HT.out.mono ?_
      rintro e w2 ⟨rfl, hr2, hk2⟩
      have hbk := rback_any (at' := pos) (why := 10) (pos := pos) hr2 hp
      rw [if_neg (by decide)] at hbk
      have HBk := Lib.hid hbk
      have HK2 := Lib.hid hk2
      clear hbk hr2 hk2 HT
      go_wp2_with fail
      go_loopw [6] (fun iv wr => iv = .int .i64 0 ∧ wr = w2) (fun _ _ => 0)
      case atStart => exact ⟨rfl, rfl⟩
      case round =>
        obtain ⟨rfl, rfl⟩ := hrel
        go_wp2_with fail
        refine HBk.out.mono ?_
        rintro e w3 ⟨rfl, hr3, hk3⟩
        have HF : Hid (RrPost w1 p v zs (pos, 10) w3) := ⟨hr3, HK2.out.one hk3⟩
        clear hr3 hk3 HBk
        go_wp2_with fail
        go_end0
        exact ⟨rfl, HF.out⟩
    · have hP : padA (m : Int) zs pos 0 = (if formW ((zs.drop pos).take g) g = 0 then pos + g else pos, formW ((zs.drop pos).take g) g) := by
        have e : ((zs.drop pos).take g).take g = (zs.drop pos).take g := by rw [List.take_take, Nat.min_self]
        unfold padA formW
        rw [e, if_neg (by simp), if_neg (by omega)]
        simp only [Int.toNat_natCast, hg]
        rw [if_neg hl]
        split
        · rw [if_pos rfl]
        · rw [if_neg (by decide)]
      rw [hP]
      have HT := Lib.hid (rtake_yes (n := g) h (by omega))
      have HLn : Hid (((zs.drop pos).take g).length = g) := by show _ = _; rw [List.length_take, List.length_drop]; omega
      have hz := h.2.2.2.2
      have hgz : g ≤ 549755813888 := by omega
      clear h hP
      generalize hB : (zs.drop pos).take g = bs at *
      clear hB
      obtain ⟨Rq, hRq⟩ : ∃ Rq : Nat × Int, (if formW bs g = 0 then pos + g else pos, formW bs g) = Rq := ⟨_, rfl⟩
      rw [hRq]
      have HRq := Lib.hid hRq
      clear hRq
      go_enter Tryd.func56, Tryd.ntmps56
      go_wp2_with fail
      refine (HG.out _).mono ?_
      rintro e w1 ⟨rfl, rfl⟩
      go_wp2_with fail
      refine HT.out.mono ?_
      rintro e w2 ⟨u, rfl, hs, hr2, hk2⟩
      obtain ⟨ua, uc, hu, hu1, hu2, _⟩ := id hs
      rw [HLn.out] at hu hu1
      subst hu
      unfold maxLen at hu2
      have HS := Lib.hid hs
      have HR2 := Lib.hid hr2
      have HK2 := Lib.hid hk2
      clear hs hr2 hk2 HT HG c1 c2 t2
      go_wp2_with fail
      go_loopw [6] (fun iv wr => ∃ i : Nat, i ≤ g ∧ iv = .int .i64 (i : Int) ∧ Hid (Rr wr p v zs (pos + g) (formW bs i)) ∧ Hid (Sl wr (.slice ua g uc) bs) ∧ Hid (Keeps (fun k => k = p) w1 wr)) (fun iv _ => g - (intOf iv).toNat)
      case atStart => exact ⟨0, by omega, rfl, (by rw [formW_zero]; exact HR2.out), HS, HK2⟩
      case round =>
        clear HS HR2 HK2
        obtain ⟨i, hi, rfl, HRi, HSi, HKi⟩ := hrel
        by_cases hin : i < g
        · have hib : i < bs.length := by rw [HLn.out]; exact hin
          have hne : bs ≠ [] := by intro e; rw [e] at hib; simp at hib
          obtain ⟨_, _, e1, _, _, _, _, h5⟩ := id HSi.out
          simp only [Value.slice.injEq] at e1
          obtain ⟨rfl, _, rfl⟩ := e1
          obtain ⟨b, o, rfl, hc⟩ := h5 i hib
          have ji : (i : Int) < (g : Int) := by omega
          have jc : (g : Int) ≤ (uc : Int) := by omega
          have jw : IntKind.i64.wrap ((i : Int) + 1) = ((i + 1 : Nat) : Int) := by rw [IntKind.wrap_i64]; omega
          have hfn := formW_next hib
          by_cases hz0 : bs.getD i 0 = 0
          · rw [hz0] at hc
            rw [if_pos hz0] at hfn
            have HR3 : Hid (Rr wr p v zs (pos + g) (formW bs (i + 1))) := by rw [hfn]; exact HRi.out
            clear hfn h5 hz0
            go_wp2_with fail
            go_roundw
            case rel => exact ⟨i + 1, by omega, rfl, HR3, HSi, HKi⟩
            case measure => simp [intOf]; omega
          · rw [if_neg hz0] at hfn
            obtain ⟨y, hy⟩ : ∃ y, bs.getD i 0 = y := ⟨_, rfl⟩
            rw [hy] at hc hz0
            have jy : ((y : Int) == 0) = false := by simpa using hz0
            have jy2 : ((y : Int) != 0) = true := by simpa using hz0
            have tw := HRi.out.thawed 2
            have cw := HRi.out.cell2
            have HR3 : Hid (Rr (wr.setCell ⟨p, 2, none⟩ (.int .i64 5)) p v zs (pos + g) (formW bs (i + 1))) := by rw [hfn]; exact HRi.out.refuse 5
            have HS3 : Hid (Sl (wr.setCell ⟨p, 2, none⟩ (.int .i64 5)) (.slice (some ⟨b, o, none⟩) g uc) bs) := HSi.out.keepsE (Keeps.setCell wr p 2 _) (fun hne k hk => HRi.out.off HSi.out hne k hk)
            have HK3 : Hid (Keeps (fun k => k = p) w1 (wr.setCell ⟨p, 2, none⟩ (.int .i64 5))) := HKi.out.one (Keeps.setCell wr p 2 _)
            clear hfn h5 hz0 hy
            go_wp2_with fail
            go_roundw
            case rel => exact ⟨i + 1, by omega, rfl, HR3, HS3, HK3⟩
            case measure => simp [intOf]; omega
        · obtain rfl : i = g := by omega
          have HBk := Lib.hid (rback_any (at' := pos) HRi.out hp)
          go_wp2_with fail
          refine HBk.out.mono ?_
          rintro e w3 ⟨rfl, hr3, hk3⟩
          have HF : Hid (RrPost w1 p v zs Rq w3) := by rw [← HRq.out]; exact ⟨hr3, HKi.out.one hk3⟩
          clear hr3 hk3 HBk
          go_wp2_with fail
          go_end0
          exact ⟨rfl, HF.out⟩
  · rw [show padA al zs pos why = (pos, why) by simp [padA, h0]]
    have hb2 : (why != 0) = true := by simpa using h0
    clear h
    go_enter Tryd.func56, Tryd.ntmps56
    go_wp2_with fail
    refine bodyPost_ret (results_none rfl _ _ _) rfl ?_
    exact ⟨rfl, RrPost.same HR.out (Below.refl _ _)⟩
end Go.Proofs.YtceljnkbkpgdjaaDoor
