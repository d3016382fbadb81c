/- ScanApart: blank. -/
import Derived.Test.YtkddfhnfhncgpaaDoorScApP
import Derived.Test.YtkddfhnfhncgpaaDoorScKnown
import Derived.Lib.Hide
namespace Go.Proofs.YtkddfhnfhncgpaaDoor
open Go.RowKit Sc
theorem Sc.drop_cons {zs : List Nat} {k : Nat} (h : k < zs.length) : zs.drop k = zs.getD k 0 :: zs.drop (k + 1) := by
  rw [List.drop_eq_getElem_cons h, List.getD_eq_getElem?_getD, List.getElem?_eq_getElem h]
  rfl
set_option maxRecDepth 100000 in
set_option maxHeartbeats 2000000 in
theorem blank_pos {w : World} {zs : List Nat} {b o cap : Nat} (hp : zs.length ≤ 140737488355328) (hc : ∀ i, i < zs.length → w.cell? ⟨b, o + i, none⟩ = some (.int .u8 (zs.getD i 0 : Nat))) :
    Calls Tryd.prog 18 #[.slice (some ⟨b, o, none⟩) zs.length cap] w fun e w' => e = .returned (.bool (blankF false zs)) ∧ w' = w := by
  have HC : Hid (∀ i, i < zs.length → w.cell? ⟨b, o + i, none⟩ = some (.int .u8 (zs.getD i 0 : Nat))) := hc
  clear hc
  obtain ⟨n, hn⟩ : ∃ n, zs.length = n := ⟨_, rfl⟩
  have HN : Hid (zs.length = n) := hn
  rw [hn] at hp ⊢
  have hpi : (n : Int) ≤ 140737488355328 := by omega
  clear hn hp
  go_enter Tryd.func18, Tryd.ntmps18
  go_wp2_with fail
  go_loopw [3, 4] (fun cv i wr => ∃ (k : Nat) (c : Bool), k ≤ n ∧ i = .int .i64 (k : Int) ∧ cv = .bool c ∧ Hid (blankF false zs = blankF c (zs.drop k)) ∧ wr = w) (fun _ i _ => n - (intOf i).toNat)
  case atStart => exact ⟨0, false, Nat.zero_le _, rfl, rfl, rfl, rfl⟩
  case round =>
    obtain ⟨k, c, hk, rfl, rfl, HE, hw⟩ := hrel
    have hw := hw.symm
    subst hw
    by_cases hlt : k < n
    · have q1 := HC.out k (by rw [HN.out]; exact hlt)
      have hst : blankF c (zs.drop k) = if (if zs.getD k 0 = 10 then false else if zs.getD k 0 = 35 then true else c) = false ∧ ¬ (zs.getD k 0 = 32 ∨ zs.getD k 0 = 9 ∨ zs.getD k 0 = 10 ∨ zs.getD k 0 = 13) then false else blankF (if zs.getD k 0 = 10 then false else if zs.getD k 0 = 35 then true else c) (zs.drop (k + 1)) := by
        rw [Sc.drop_cons (by rw [HN.out]; exact hlt), blankF]
      have HST := Lib.hid hst
      have ik : (k : Int) < (n : Int) := by omega
      have ik0 : (0 : Int) ≤ (k : Int) := by omega
      clear hst
      generalize zs.getD k 0 = z at *
      by_cases h10 : z = 10
      · have HX : Hid (blankF false zs = blankF false (zs.drop (k + 1))) := by
          show _ = _
          rw [HE.out, HST.out, h10]
          simp
        subst h10
        clear HST HE
        go_wp2_with fail
        exact ⟨⟨k + 1, false, by omega, by go_num, rfl, HX, trivial⟩, by simp only [intOf]; omega⟩
      · have e10 : ((z : Int) == 10) = false := beq_eq_false_iff_ne.2 (by omega)
        by_cases h35 : z = 35
        · have HX : Hid (blankF false zs = blankF true (zs.drop (k + 1))) := by
            show _ = _
            rw [HE.out, HST.out, h35]
            simp
          subst h35
          clear HST HE h10 e10
          go_wp2_with fail
          exact ⟨⟨k + 1, true, by omega, by go_num, rfl, HX, trivial⟩, by simp only [intOf]; omega⟩
        · have e35 : ((z : Int) == 35) = false := beq_eq_false_iff_ne.2 (by omega)
          cases c with
          | true =>
            have HX : Hid (blankF false zs = blankF true (zs.drop (k + 1))) := by
              show _ = _
              rw [HE.out, HST.out, if_neg h10, if_neg h35]
              simp
            clear HST HE
            go_wp2_with fail
            exact ⟨⟨k + 1, true, by omega, by go_num, rfl, HX, trivial⟩, by simp only [intOf]; omega⟩
          | false =>
            by_cases h3 : z = 32 ∨ z = 9 ∨ z = 13
            · have HX : Hid (blankF false zs = blankF false (zs.drop (k + 1))) := by
                show _ = _
                rw [HE.out, HST.out, if_neg h10, if_neg h35, if_neg (fun h => h.2 (by omega))]
              clear HST HE h35 h10
              rcases h3 with rfl | rfl | rfl
              all_goals
                clear e10 e35
                go_wp2_with fail
                exact ⟨⟨k + 1, false, by omega, by go_num, rfl, HX, trivial⟩, by simp only [intOf]; omega⟩
            · have HX : Hid (blankF false zs = false) := by
                show _ = _
                rw [HE.out, HST.out, if_neg h10, if_neg h35, if_pos ⟨rfl, by omega⟩]
              have n32 : ((z : Int) != 32) = true := bne_iff_ne.2 (by omega)
              have n9 : ((z : Int) != 9) = true := bne_iff_ne.2 (by omega)
              have n13 : ((z : Int) != 13) = true := bne_iff_ne.2 (by omega)
              have n10 : ((z : Int) != 10) = true := bne_iff_ne.2 (by omega)
              clear HST HE h35 h10 h3
              go_wp2_with fail
              go_ret
              rw [HX.out]
              exact ⟨rfl, rfl⟩
    · have HX : Hid (blankF false zs = true) := by
        show _ = _
        rw [HE.out, List.drop_of_length_le (by rw [HN.out]; omega)]
        rfl
      have ik : ¬ (k : Int) < (n : Int) := by omega
      go_wp2_with fail
      go_ret
      rw [HX.out]
      exact ⟨rfl, rfl⟩
set_option maxHeartbeats 400000 in
theorem blank_none (ao : Option Addr) (cap : Nat) (w : World) :
    Calls Tryd.prog 18 #[.slice ao 0 cap] w fun e w' => e = .returned (.bool true) ∧ w' = w := by
  go_enter Tryd.func18, Tryd.ntmps18
  go_wp2
  go_loop [3, 4] (fun _ i => i = .int .i64 0) (fun _ _ => 0)
  case atStart => rfl
  case round =>
    subst hrel
    go_wp2
    go_ret
    exact ⟨rfl, rfl⟩
theorem blank_any {w : World} {v : Value} {zs : List Nat} (hs : Sl w v zs) (hl : zs.length ≤ 140737488355328) :
    Calls Tryd.prog 18 #[v] w fun e w' => e = .returned (.bool (blankF false zs)) ∧ w' = w := by
  by_cases hp : 0 < zs.length
  · obtain ⟨b, o, c, rfl, _, _, _, h4⟩ := hs.pos hp
    exact blank_pos hl h4
  · obtain rfl : zs = [] := List.eq_nil_of_length_eq_zero (by omega)
    obtain ⟨ao, cap, rfl, _⟩ := hs
    exact blank_none ao cap w
end Go.Proofs.YtkddfhnfhncgpaaDoor
