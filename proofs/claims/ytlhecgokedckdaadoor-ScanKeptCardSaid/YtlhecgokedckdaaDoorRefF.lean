/- The document's own answer to chapter 5: Lexeme. -/
import Derived.Test.YtlhecgokedckdaaDoorRefC
import Derived.Test.YtlhecgokedckdaaDoorRefD
import Derived.Test.YtlhecgokedckdaaDoorRefE
import Derived.Test.YtlhecgokedckdaaDoorRefF0
import Derived.Test.YtlhecgokedckdaaDoorScLex
namespace Go.Proofs.YtlhecgokedckdaaDoor
open Go.RowKit Sc
def tokV (k n : Nat) (s : List Nat) (a e : Nat) : Value := .agg #[.int .i64 (k : Int), .int .u64 (n : Int), .string (mkS s), .int .i64 (a : Int), .int .i64 (e : Int)]
/-- what the document's Lexeme answers -/
def rlexV (a : Nat) : Res (Nat × Nat × List Nat) → Value
  | .ok x k => .tuple #[tokV x.1 x.2.1 x.2.2 a (a + k), .int .i64 (-1)]
  | .bad k => .tuple #[tokV 0 0 [] 0 0, .int .i64 ((a + k : Nat) : Int)]
theorem quote_cls {b : Nat} (hb : b < 256) : cls b = 3 ↔ b = 34 := by
  have h : ∀ t : Fin 256, cls t.val = 3 ↔ t.val = 34 := by decide +kernel
  exact h ⟨b, hb⟩
theorem TokB.set3 {w : World} {g : Nat} {t : Tok} (h : TokB w g t) (x : Nat) : TokB (w.setCell ⟨g, 3, none⟩ (.int .i64 (x : Int))) g { t with at_ := x } := by
  have h' : w.heap[g]? = _ := h
  simp [TokB, World.setCell, Array.getElem?_modify, h', encT]
theorem ret_tok {W2 : World} {g : Nat} {t : Tok} {T : Array Value} {bad : Int} (h : TokB W2 g t) (h4 : T[4]?.getD undef = .pointer (some ⟨g, 0, none⟩)) (h5 : T[5]?.getD undef = .int .i64 bad) : (results Tryd.f22 T).run Tryd.prog W2 = .ok (.tuple #[tokV t.kind t.n t.s t.at_ t.end_, .int .i64 bad]) W2 := by
  obtain ⟨d0, d1, d2, d3, d4⟩ := h.cells
  simp [results, Tryd.results22, go_sem, tokV, h4, h5, d0, d1, d2, d3, d4]
theorem TokB.set2' {w : World} {g : Nat} {t : Tok} {x : List Nat} {b : ByteArray} (e : mkS x = b) (h : TokB w g t) : TokB (w.setCell ⟨g, 2, none⟩ (.string b)) g { t with s := x } := e ▸ h.set2 x
/-- what stands behind the switch -/
def RMid (w wx : World) (a : Nat) (r : Res (Nat × Nat × List Nat)) (bad : Int) : Prop :=
  Below w.heap.size w wx ∧ TokB wx w.heap.size ⟨0, 0, [], 0, 0⟩ ∧ ∃ t : Tok, TokB wx (w.heap.size + 1) t ∧ ((∃ x k, r = .ok x k ∧ bad = -1 ∧ t = ⟨x.1, x.2.1, x.2.2, a, a + k⟩) ∨ ∃ k : Nat, r = .bad k ∧ bad = ((a + k : Nat) : Int))
set_option maxRecDepth 100000 in
set_option maxHeartbeats 2000000 in
theorem rLexeme_any {w : World} (ht : RTabs w) (s : ByteArray) {a : Nat} (ha : a < s.size) (hs : s.size ≤ 1048576) :
    Calls Tryd.prog 22 #[.string s, .int .i64 (a : Int)] w fun e w' => e = .returned (rlexV a (lexF ((sb s).drop a))) ∧ Below w.heap.size w w' := by
  have HT : Hid (RTabs w) := ht
  have hz : s[a].toNat < 256 := s[a].toNat_lt
  have ia : (a : Int) < (s.size : Int) := by omega
  have HDg : Hid (∀ W, Calls Tryd.prog 36 #[.int .u8 (s[a].toNat : Int)] W fun e w' => e = .returned (.bool (isD s[a].toNat)) ∧ W = w') := fun W => digit_any hz W
  clear ht
  go_enter Tryd.func22, Tryd.ntmps22
  go_upto_block 0 with fail
  go_cut [8] (fun y wx => ∃ bad, y = .int .i64 bad ∧ RMid w wx a (lexF ((sb s).drop a)) bad)
  case first =>
    obtain ⟨W, hW⟩ : ∃ W, (w.alloc (.cells #[.int .i64 0, .int .u64 0, .string ⟨#[]⟩, .int .i64 0, .int .i64 0] 38)).alloc (.cells #[.int .i64 0, .int .u64 0, .string ⟨#[]⟩, .int .i64 (a : Int), .int .i64 0] 38) = W := ⟨_, rfl⟩
    have hb0 : Below w.heap.size w W := hW ▸ ((Below.refl _ _).alloc (Nat.le_refl _) _).alloc (by simp) _
    have hr0 : TokB W w.heap.size ⟨0, 0, [], 0, 0⟩ := by
      have h : TokB (w.alloc (.cells #[.int .i64 0, .int .u64 0, .string ⟨#[]⟩, .int .i64 0, .int .i64 0] 38)) w.heap.size ⟨0, 0, [], 0, 0⟩ := heap_alloc_new w _
      have h2 := h.keeps (Keeps.of_below (S := fun _ => False) ((Below.refl _ _).alloc (Nat.le_refl _) (.cells #[.int .i64 0, .int .u64 0, .string ⟨#[]⟩, .int .i64 (a : Int), .int .i64 0] 38))) (fun e => e)
      rw [hW] at h2
      exact h2
    have ht0 : TokB W (w.heap.size + 1) ⟨0, 0, [], a, 0⟩ := by
      have h : TokB ((w.alloc (.cells #[.int .i64 0, .int .u64 0, .string ⟨#[]⟩, .int .i64 0, .int .i64 0] 38)).alloc (.cells #[.int .i64 0, .int .u64 0, .string ⟨#[]⟩, .int .i64 (a : Int), .int .i64 0] 38)) (w.alloc (.cells #[.int .i64 0, .int .u64 0, .string ⟨#[]⟩, .int .i64 0, .int .i64 0] 38)).heap.size ⟨0, 0, [], a, 0⟩ := heap_alloc_new _ _
      rw [hW] at h
      simpa using h
    have HWe : Hid ((w.alloc (.cells #[.int .i64 0, .int .u64 0, .string ⟨#[]⟩, .int .i64 0, .int .i64 0] 38)).alloc (.cells #[.int .i64 0, .int .u64 0, .string ⟨#[]⟩, .int .i64 (a : Int), .int .i64 0] 38) = W) := hW
    clear hW
    rw [HWe.out]
    clear HWe
    have HB0 : Hid (Below w.heap.size w W) := hb0
    have HR0 : Hid (TokB W w.heap.size ⟨0, 0, [], 0, 0⟩) := hr0
    have HT0 : Hid (TokB W (w.heap.size + 1) ⟨0, 0, [], a, 0⟩) := ht0
    clear hb0 hr0 ht0
    have hhd := int_head ha
    have hlx : lexF ((sb s).drop a) = if cls s[a].toNat = 5 then (wordF ((sb s).drop a)).map fun x => (x.1, 0, x.2) else if cls s[a].toNat = 6 then (integerF ((sb s).drop a)).map fun x => (2, x, []) else if cls s[a].toNat = 3 then ((textF ((sb s).drop (a + 1))).shift 1).map fun x => (3, 0, x) else if cls s[a].toNat = 4 then (signF ((sb s).drop a)).map fun x => (x, 0, []) else .bad 0 := by
      unfold lexF
      rw [hhd, List.drop_drop]
    obtain ⟨g0, g1, g2, g3, g4⟩ := HT0.out.cells
    have f0 := HT0.out.thawed 0
    have f1 := HT0.out.thawed 1
    have f2 := HT0.out.thawed 2
    have f4 := HT0.out.thawed 4
    have HEn : Hid (∀ W, Calls Tryd.prog 37 #[.string s, .int .i64 (a : Int)] W fun e w' => e = .returned (.int .i64 ((a + Sc.runN ((sb s).drop a) : Nat) : Int)) ∧ W = w') := fun W => rEnd_any s (by omega) hs W
    have hrl : a + Sc.runN ((sb s).drop a) ≤ s.size := by have := runN_le ((sb s).drop a); rw [List.length_drop, sb_length] at this; omega
    by_cases c6 : cls s[a].toNat = 6
    · have HIn : Hid (∀ W, Calls Tryd.prog 38 #[.string (s.extract a (a + Sc.runN ((sb s).drop a)))] W fun e w' => e = .returned (rintV (rintF (sb (s.extract a (a + Sc.runN ((sb s).drop a)))))) ∧ Below W.heap.size W w') := fun W => rInteger_any _ (by rw [← sb_length, sb_extract, List.length_take, List.length_drop, sb_length]; omega)
      rw [sb_extract, Nat.add_sub_cancel_left] at HIn
      have hd : isD s[a].toNat = true := by rw [isD_cls hz, decide_eq_true c6]
      have hv : value (((sb s).drop a).headD 0) < 10 := by rw [hhd]; exact (by
        have : ∀ t : Fin 256, isD t.val = true → value t.val < 10 := by decide +kernel
        exact this ⟨_, hz⟩ hd)
      rw [rint_run hv] at HIn
      rw [hd] at HDg
      have HEnd : Hid (∀ m k, integerF ((sb s).drop a) = .ok m k → k = Sc.runN ((sb s).drop a)) := fun m k h => integer_end hv h
      have HOff : Hid (∀ k, integerF ((sb s).drop a) = .bad k → k ≤ Sc.runN ((sb s).drop a)) := fun k h => integer_off hv h
      have HLx : Hid (lexF ((sb s).drop a) = (integerF ((sb s).drop a)).map fun x => (2, x, [])) := by
        show _ = _
        rw [hlx, if_neg (by omega), if_pos c6]
      clear hd hv hhd c6 hlx
      generalize Sc.runN ((sb s).drop a) = q at *
      have HT1 : Hid (TokB ((W.setCell ⟨w.heap.size + 1, 0, none⟩ (.int .i64 2)).setCell ⟨w.heap.size + 1, 4, none⟩ (.int .i64 ((a : Int) + (q : Int)))) (w.heap.size + 1) ⟨2, 0, [], a, a + q⟩) := (HT0.out.set0 2).set4 (a + q)
      have HR1 : Hid (TokB ((W.setCell ⟨w.heap.size + 1, 0, none⟩ (.int .i64 2)).setCell ⟨w.heap.size + 1, 4, none⟩ (.int .i64 ((a : Int) + (q : Int)))) w.heap.size ⟨0, 0, [], 0, 0⟩) := (HR0.out.keeps (Keeps.setCell _ _ 0 _) (by omega)).keeps (Keeps.setCell _ _ 4 _) (by omega)
      have HB1 : Hid (Below w.heap.size w ((W.setCell ⟨w.heap.size + 1, 0, none⟩ (.int .i64 2)).setCell ⟨w.heap.size + 1, 4, none⟩ (.int .i64 ((a : Int) + (q : Int))))) := (HB0.out.setCell (by show w.heap.size ≤ w.heap.size + 1; omega) _).setCell (by show w.heap.size ≤ w.heap.size + 1; omega) _
      go_wp2_with fail
      refine (HDg.out _).mono ?_
      rintro e w1 ⟨rfl, rfl⟩
      clear HDg
      go_wp2_with fail
      refine (HEn.out _).mono ?_
      rintro e w2 ⟨rfl, rfl⟩
      clear HEn
      go_wp2_with fail
      refine (HIn.out _).mono ?_
      rintro e w3 ⟨rfl, hb3⟩
      have HT3 := HT1.out.keeps (Keeps.of_below (S := fun _ => False) hb3) (fun e => e)
      have HR3 : Hid (TokB w3 w.heap.size ⟨0, 0, [], 0, 0⟩) := HR1.out.keeps (Keeps.of_below (S := fun _ => False) hb3) (fun e => e)
      have HB3 : Hid (Below w.heap.size w w3) := HB1.out.trans (hb3.mono HB1.out.size)
      have HT3' : Hid (TokB w3 (w.heap.size + 1) ⟨2, 0, [], a, a + q⟩) := HT3
      obtain ⟨g0, g1, g2, g3, g4⟩ := HT3.cells
      have f1 := HT3.thawed 1
      clear HT3 hb3 HIn HT1 HR1 HB1
      cases hI : integerF ((sb s).drop a) with
      | ok n k =>
        have HM : Hid (RMid w (w3.setCell ⟨w.heap.size + 1, 1, none⟩ (.int .u64 (n : Int))) a (lexF ((sb s).drop a)) (-1)) :=
          ⟨HB3.out.setCell (by show w.heap.size ≤ w.heap.size + 1; omega) _, HR3.out.keeps (Keeps.setCell _ _ 1 _) (by omega), _, HT3'.out.set1 n, .inl ⟨(2, n, []), k, by rw [HLx.out, hI]; rfl, rfl, by rw [HEnd.out n k hI]⟩⟩
        clear hI HLx HEnd HOff
        unfold rintV
        go_wp2_with fail
        go_meet
        exact ⟨-1, rfl, HM.out⟩
      | bad k =>
        have HM : Hid (RMid w (w3.setCell ⟨w.heap.size + 1, 1, none⟩ (.int .u64 0)) a (lexF ((sb s).drop a)) ((a : Int) + (k : Int))) :=
          ⟨HB3.out.setCell (by show w.heap.size ≤ w.heap.size + 1; omega) _, HR3.out.keeps (Keeps.setCell _ _ 1 _) (by omega), _, HT3'.out.set1 0, .inr ⟨k, by rw [HLx.out, hI]; rfl, by omega⟩⟩
        have hk : k ≤ q := HOff.out k hI
        clear hI HLx HEnd HOff
        unfold rintV
        go_wp2_with fail
        go_meet
        exact ⟨_, rfl, HM.out⟩
    · have hd : isD s[a].toNat = false := by rw [isD_cls hz, decide_eq_false c6]
      rw [hd] at HDg
      have HWb : Hid (∀ W, Calls Tryd.prog 39 #[.int .u8 (s[a].toNat : Int)] W fun e w' => e = .returned (.bool (isW s[a].toNat)) ∧ W = w') := fun W => wordByte_any hz W
      by_cases c5 : cls s[a].toNat = 5
      · rw [show isW s[a].toNat = true from by unfold isW; rw [c5]; rfl] at HWb
        have HLx : Hid (lexF ((sb s).drop a) = (wordF ((sb s).drop a)).map fun x => (x.1, 0, x.2)) := by
          show _ = _
          rw [hlx, if_pos c5]
        have hwf : wordF ((sb s).drop a) = if 32 < Sc.runN ((sb s).drop a) then .bad 32 else .ok (if reservedF (((sb s).drop a).take (Sc.runN ((sb s).drop a))) = 0 then (1, ((sb s).drop a).take (Sc.runN ((sb s).drop a))) else (reservedF (((sb s).drop a).take (Sc.runN ((sb s).drop a))), [])) (Sc.runN ((sb s).drop a)) := rfl
        clear hd hhd c6 c5 hlx
        generalize Sc.runN ((sb s).drop a) = q at *
        have hsz : (s.extract a (a + q)).size = q := by rw [← sb_length, sb_extract, Nat.add_sub_cancel_left, List.length_take, List.length_drop, sb_length]; omega
        have hms : mkS (((sb s).drop a).take q) = s.extract a (a + q) := by rw [← mkS_sb (s.extract a (a + q)), sb_extract, Nat.add_sub_cancel_left]
        have HRe : Hid (∀ W, Below w.heap.size w W → Calls Tryd.prog 40 #[.string (s.extract a (a + q))] W fun e w' => e = .returned (.int .i64 (reservedF (sb (s.extract a (a + q))) : Nat)) ∧ w' = W) := fun W hW => rReserved_any _ (HT.out.below hW)
        rw [sb_extract, Nat.add_sub_cancel_left] at HRe
        have HMs : Hid (mkS (((sb s).drop a).take q) = s.extract a (a + q)) := hms
        have HWf : Hid (wordF ((sb s).drop a) = if 32 < q then .bad 32 else .ok (if reservedF (((sb s).drop a).take q) = 0 then (1, ((sb s).drop a).take q) else (reservedF (((sb s).drop a).take q), [])) q) := hwf
        clear hms hwf
        generalize ((sb s).drop a).take q = wd at *
        have HB1 : Hid (Below w.heap.size w (W.setCell ⟨w.heap.size + 1, 4, none⟩ (.int .i64 ((a : Int) + (q : Int))))) := HB0.out.setCell (by show w.heap.size ≤ w.heap.size + 1; omega) _
        by_cases hR : reservedF wd = 0
        · rw [hR] at HRe HWf
          by_cases hbg : 32 < q
          · have HM : Hid (RMid w ((((W.setCell ⟨w.heap.size + 1, 4, none⟩ (.int .i64 ((a : Int) + (q : Int)))).setCell ⟨w.heap.size + 1, 0, none⟩ (.int .i64 0)).setCell ⟨w.heap.size + 1, 0, none⟩ (.int .i64 1)).setCell ⟨w.heap.size + 1, 2, none⟩ (.string (s.extract a (a + q)))) a (lexF ((sb s).drop a)) ((a : Int) + 32)) :=
              ⟨((((HB0.out.setCell (by show w.heap.size ≤ w.heap.size + 1; omega) _).setCell (by show w.heap.size ≤ w.heap.size + 1; omega) _).setCell (by show w.heap.size ≤ w.heap.size + 1; omega) _).setCell (by show w.heap.size ≤ w.heap.size + 1; omega) _), ((((HR0.out.keeps (Keeps.setCell _ _ 4 _) (by omega)).keeps (Keeps.setCell _ _ 0 _) (by omega)).keeps (Keeps.setCell _ _ 0 _) (by omega)).keeps (Keeps.setCell _ _ 2 _) (by omega)), _, (TokB.set2' HMs.out (((HT0.out.set4 (a + q)).set0 0).set0 1)), .inr ⟨32, by rw [HLx.out, HWf.out, if_pos hbg]; rfl, rfl⟩⟩
            have ib : (32 : Int) < (q : Int) := by omega
            clear HLx HWf HMs
            go_wp2_with fail
            refine (HDg.out _).mono ?_
            rintro e w1 ⟨rfl, rfl⟩
            clear HDg
            go_wp2_with fail
            refine (HWb.out _).mono ?_
            rintro e w1 ⟨rfl, rfl⟩
            clear HWb
            go_wp2_with fail
            refine (HEn.out _).mono ?_
            rintro e w2 ⟨rfl, rfl⟩
            clear HEn
            go_wp2_with fail
            refine (HRe.out _ HB1.out).mono ?_
            rintro e w3 ⟨rfl, rfl⟩
            clear HRe
            go_wp2_with fail
            go_meet
            exact ⟨_, rfl, HM.out⟩
          · have HM : Hid (RMid w ((((W.setCell ⟨w.heap.size + 1, 4, none⟩ (.int .i64 ((a : Int) + (q : Int)))).setCell ⟨w.heap.size + 1, 0, none⟩ (.int .i64 0)).setCell ⟨w.heap.size + 1, 0, none⟩ (.int .i64 1)).setCell ⟨w.heap.size + 1, 2, none⟩ (.string (s.extract a (a + q)))) a (lexF ((sb s).drop a)) (-1)) :=
              ⟨((((HB0.out.setCell (by show w.heap.size ≤ w.heap.size + 1; omega) _).setCell (by show w.heap.size ≤ w.heap.size + 1; omega) _).setCell (by show w.heap.size ≤ w.heap.size + 1; omega) _).setCell (by show w.heap.size ≤ w.heap.size + 1; omega) _), ((((HR0.out.keeps (Keeps.setCell _ _ 4 _) (by omega)).keeps (Keeps.setCell _ _ 0 _) (by omega)).keeps (Keeps.setCell _ _ 0 _) (by omega)).keeps (Keeps.setCell _ _ 2 _) (by omega)), _, (TokB.set2' HMs.out (((HT0.out.set4 (a + q)).set0 0).set0 1)), .inl ⟨(1, 0, wd), q, by rw [HLx.out, HWf.out, if_neg hbg, if_pos rfl]; rfl, rfl, rfl⟩⟩
            have ib : ¬ (32 : Int) < (q : Int) := by omega
            clear HLx HWf HMs
            go_wp2_with fail
            refine (HDg.out _).mono ?_
            rintro e w1 ⟨rfl, rfl⟩
            clear HDg
            go_wp2_with fail
            refine (HWb.out _).mono ?_
            rintro e w1 ⟨rfl, rfl⟩
            clear HWb
            go_wp2_with fail
            refine (HEn.out _).mono ?_
            rintro e w2 ⟨rfl, rfl⟩
            clear HEn
            go_wp2_with fail
            refine (HRe.out _ HB1.out).mono ?_
            rintro e w3 ⟨rfl, rfl⟩
            clear HRe
            go_wp2_with fail
            go_meet
            exact ⟨_, rfl, HM.out⟩
        · generalize reservedF wd = R at *
          have hRi : ¬ (R : Int) = 0 := by omega
          by_cases hbg : 32 < q
          · have HM : Hid (RMid w ((W.setCell ⟨w.heap.size + 1, 4, none⟩ (.int .i64 ((a : Int) + (q : Int)))).setCell ⟨w.heap.size + 1, 0, none⟩ (.int .i64 (R : Int))) a (lexF ((sb s).drop a)) ((a : Int) + 32)) :=
              ⟨((HB0.out.setCell (by show w.heap.size ≤ w.heap.size + 1; omega) _).setCell (by show w.heap.size ≤ w.heap.size + 1; omega) _), ((HR0.out.keeps (Keeps.setCell _ _ 4 _) (by omega)).keeps (Keeps.setCell _ _ 0 _) (by omega)), _, ((HT0.out.set4 (a + q)).set0 R), .inr ⟨32, by rw [HLx.out, HWf.out, if_pos hbg]; rfl, rfl⟩⟩
            have ib : (32 : Int) < (q : Int) := by omega
            clear HLx HWf HMs
            go_wp2_with fail
            refine (HDg.out _).mono ?_
            rintro e w1 ⟨rfl, rfl⟩
            clear HDg
            go_wp2_with fail
            refine (HWb.out _).mono ?_
            rintro e w1 ⟨rfl, rfl⟩
            clear HWb
            go_wp2_with fail
            refine (HEn.out _).mono ?_
            rintro e w2 ⟨rfl, rfl⟩
            clear HEn
            go_wp2_with fail
            refine (HRe.out _ HB1.out).mono ?_
            rintro e w3 ⟨rfl, rfl⟩
            clear HRe
            go_wp2_with fail
            go_meet
            exact ⟨_, rfl, HM.out⟩
          · have HM : Hid (RMid w ((W.setCell ⟨w.heap.size + 1, 4, none⟩ (.int .i64 ((a : Int) + (q : Int)))).setCell ⟨w.heap.size + 1, 0, none⟩ (.int .i64 (R : Int))) a (lexF ((sb s).drop a)) (-1)) :=
              ⟨((HB0.out.setCell (by show w.heap.size ≤ w.heap.size + 1; omega) _).setCell (by show w.heap.size ≤ w.heap.size + 1; omega) _), ((HR0.out.keeps (Keeps.setCell _ _ 4 _) (by omega)).keeps (Keeps.setCell _ _ 0 _) (by omega)), _, ((HT0.out.set4 (a + q)).set0 R), .inl ⟨(R, 0, []), q, by rw [HLx.out, HWf.out, if_neg hbg, if_neg hR]; rfl, rfl, rfl⟩⟩
            have ib : ¬ (32 : Int) < (q : Int) := by omega
            clear HLx HWf HMs
            go_wp2_with fail
            refine (HDg.out _).mono ?_
            rintro e w1 ⟨rfl, rfl⟩
            clear HDg
            go_wp2_with fail
            refine (HWb.out _).mono ?_
            rintro e w1 ⟨rfl, rfl⟩
            clear HWb
            go_wp2_with fail
            refine (HEn.out _).mono ?_
            rintro e w2 ⟨rfl, rfl⟩
            clear HEn
            go_wp2_with fail
            refine (HRe.out _ HB1.out).mono ?_
            rintro e w3 ⟨rfl, rfl⟩
            clear HRe
            go_wp2_with fail
            go_meet
            exact ⟨_, rfl, HM.out⟩
      · have hw : isW s[a].toNat = false := by
          have := cls_lt s[a].toNat
          unfold isW
          exact decide_eq_false (by omega)
        rw [hw] at HWb
        by_cases c3 : cls s[a].toNat = 3
        · have q34 : ((s[a].toNat : Int) == 34) = true := by rw [(quote_cls hz).1 c3]; rfl
          have HLx : Hid (lexF ((sb s).drop a) = ((textF ((sb s).drop (a + 1))).shift 1).map fun x => (3, 0, x)) := by
            show _ = _
            rw [hlx, if_neg c5, if_neg c6, if_pos c3]
          have HTx : Hid (∀ W, Calls Tryd.prog 41 #[.string s, .int .i64 (a : Int)] W fun e w' => e = .returned (rtextV a (textF ((sb s).drop (a + 1)))) ∧ Below W.heap.size W w') := fun W => rText_any s ha hs
          have HT1 : Hid (TokB (W.setCell ⟨w.heap.size + 1, 0, none⟩ (.int .i64 3)) (w.heap.size + 1) ⟨3, 0, [], a, 0⟩) := HT0.out.set0 3
          have HR1 : Hid (TokB (W.setCell ⟨w.heap.size + 1, 0, none⟩ (.int .i64 3)) w.heap.size ⟨0, 0, [], 0, 0⟩) := HR0.out.keeps (Keeps.setCell _ _ 0 _) (by omega)
          have HB1 : Hid (Below w.heap.size w (W.setCell ⟨w.heap.size + 1, 0, none⟩ (.int .i64 3))) := HB0.out.setCell (by show w.heap.size ≤ w.heap.size + 1; omega) _
          clear hd hw hhd c6 c5 c3 hlx HEn
          go_wp2_with fail
          refine (HDg.out _).mono ?_
          rintro e w1 ⟨rfl, rfl⟩
          clear HDg
          go_wp2_with fail
          refine (HWb.out _).mono ?_
          rintro e w1 ⟨rfl, rfl⟩
          clear HWb
          go_wp2_with fail
          refine (HTx.out _).mono ?_
          rintro e w3 ⟨rfl, hb3⟩
          have HT3 := HT1.out.keeps (Keeps.of_below (S := fun _ => False) hb3) (fun e => e)
          have HR3 : Hid (TokB w3 w.heap.size ⟨0, 0, [], 0, 0⟩) := HR1.out.keeps (Keeps.of_below (S := fun _ => False) hb3) (fun e => e)
          have HB3 : Hid (Below w.heap.size w w3) := HB1.out.trans (hb3.mono HB1.out.size)
          have HT3' : Hid (TokB w3 (w.heap.size + 1) ⟨3, 0, [], a, 0⟩) := HT3
          obtain ⟨g0, g1, g2, g3, g4⟩ := HT3.cells
          have f2 := HT3.thawed 2
          have f4 := HT3.thawed 4
          clear HT3 hb3 HTx HT1 HR1 HB1
          cases hI : textF ((sb s).drop (a + 1)) with
          | ok x k =>
            have HM : Hid (RMid w ((w3.setCell ⟨w.heap.size + 1, 2, none⟩ (.string (mkS x))).setCell ⟨w.heap.size + 1, 4, none⟩ (.int .i64 ((a + 1 + k : Nat) : Int))) a (lexF ((sb s).drop a)) (-1)) :=
              ⟨(HB3.out.setCell (by show w.heap.size ≤ w.heap.size + 1; omega) _).setCell (by show w.heap.size ≤ w.heap.size + 1; omega) _, (HR3.out.keeps (Keeps.setCell _ _ 2 _) (by omega)).keeps (Keeps.setCell _ _ 4 _) (by omega), _, (HT3'.out.set2 x).set4 (a + 1 + k), .inl ⟨(3, 0, x), 1 + k, by rw [HLx.out, hI]; rfl, rfl, by rw [Nat.add_assoc]⟩⟩
            clear hI HLx
            unfold rtextV
            go_wp2_with fail
            go_meet
            exact ⟨_, rfl, HM.out⟩
          | bad k =>
            have HM : Hid (RMid w ((w3.setCell ⟨w.heap.size + 1, 2, none⟩ (.string (mkS []))).setCell ⟨w.heap.size + 1, 4, none⟩ (.int .i64 ((a + 1 + k : Nat) : Int))) a (lexF ((sb s).drop a)) ((a + 1 + k : Nat) : Int)) :=
              ⟨(HB3.out.setCell (by show w.heap.size ≤ w.heap.size + 1; omega) _).setCell (by show w.heap.size ≤ w.heap.size + 1; omega) _, (HR3.out.keeps (Keeps.setCell _ _ 2 _) (by omega)).keeps (Keeps.setCell _ _ 4 _) (by omega), _, (HT3'.out.set2 []).set4 (a + 1 + k), .inr ⟨1 + k, by rw [HLx.out, hI]; rfl, by rw [Nat.add_assoc]⟩⟩
            clear hI HLx
            unfold rtextV
            go_wp2_with fail
            go_meet
            exact ⟨_, rfl, HM.out⟩
        · have q34 : ((s[a].toNat : Int) == 34) = false := beq_eq_false_iff_ne.2 (fun e => c3 ((quote_cls hz).2 (by omega)))
          have HLx : Hid (lexF ((sb s).drop a) = if cls s[a].toNat = 4 then (signF ((sb s).drop a)).map fun x => (x, 0, []) else .bad 0) := by
            show _ = _
            rw [hlx, if_neg c5, if_neg c6, if_neg c3]
          have HSg : Hid (Calls Tryd.prog 42 #[.string s, .int .i64 (a : Int)] W fun e w' => e = .returned (rsignV a ((sb s).drop a)) ∧ Below W.heap.size W w') := rsign_any (HT.out.below HB0.out) s ha hs
          have HHd : Hid (((sb s).drop a).headD 0 = s[a].toNat) := hhd
          clear hd hw hhd c6 c5 c3 hlx HEn
          go_wp2_with fail
          refine (HDg.out _).mono ?_
          rintro e w1 ⟨rfl, rfl⟩
          clear HDg
          go_wp2_with fail
          refine (HWb.out _).mono ?_
          rintro e w1 ⟨rfl, rfl⟩
          clear HWb
          go_wp2_with fail
          refine HSg.out.mono ?_
          rintro e w3 ⟨rfl, hb3⟩
          have HT3 := HT0.out.keeps (Keeps.of_below (S := fun _ => False) hb3) (fun e => e)
          have HR3 : Hid (TokB w3 w.heap.size ⟨0, 0, [], 0, 0⟩) := HR0.out.keeps (Keeps.of_below (S := fun _ => False) hb3) (fun e => e)
          have HB3 : Hid (Below w.heap.size w w3) := HB0.out.trans (hb3.mono HB0.out.size)
          have HT3' : Hid (TokB w3 (w.heap.size + 1) ⟨0, 0, [], a, 0⟩) := HT3
          obtain ⟨g0, g1, g2, g3, g4⟩ := HT3.cells
          have f0 := HT3.thawed 0
          have f4 := HT3.thawed 4
          clear HT3 hb3 HSg
          cases hI : signF ((sb s).drop a) with
          | ok x k =>
            have h4 : cls s[a].toNat = 4 := by
              rcases Nat.decEq (cls s[a].toNat) 4 with h | h
              · have := signF_none (l := (sb s).drop a) (by rw [HHd.out]; exact h)
                rw [this] at hI
                cases hI
              · exact h
            have hV : rsignV a ((sb s).drop a) = .tuple #[.int .i64 (x : Int), .int .i64 ((a + k : Nat) : Int), .int .i64 (-1)] := by unfold rsignV; rw [hI]
            have HM : Hid (RMid w ((w3.setCell ⟨w.heap.size + 1, 0, none⟩ (.int .i64 (x : Int))).setCell ⟨w.heap.size + 1, 4, none⟩ (.int .i64 ((a + k : Nat) : Int))) a (lexF ((sb s).drop a)) (-1)) :=
              ⟨(HB3.out.setCell (by show w.heap.size ≤ w.heap.size + 1; omega) _).setCell (by show w.heap.size ≤ w.heap.size + 1; omega) _, (HR3.out.keeps (Keeps.setCell _ _ 0 _) (by omega)).keeps (Keeps.setCell _ _ 4 _) (by omega), _, (HT3'.out.set0 x).set4 (a + k), .inl ⟨(x, 0, []), k, by rw [HLx.out, if_pos h4, hI]; rfl, rfl, rfl⟩⟩
            rw [hV]
            clear hI HLx h4 hV
            go_wp2_with fail
            go_meet
            exact ⟨_, rfl, HM.out⟩
          | bad j =>
            obtain rfl := sign_bad hI
            by_cases h4 : cls s[a].toNat = 4
            · have hV : rsignV a ((sb s).drop a) = .tuple #[.int .i64 0, .int .i64 0, .int .i64 ((a + 1 : Nat) : Int)] := by unfold rsignV; rw [hI]; simp only; rw [HHd.out, if_pos h4]
              have HM : Hid (RMid w ((w3.setCell ⟨w.heap.size + 1, 0, none⟩ (.int .i64 0)).setCell ⟨w.heap.size + 1, 4, none⟩ (.int .i64 0)) a (lexF ((sb s).drop a)) ((a + 1 : Nat) : Int)) :=
                ⟨(HB3.out.setCell (by show w.heap.size ≤ w.heap.size + 1; omega) _).setCell (by show w.heap.size ≤ w.heap.size + 1; omega) _, (HR3.out.keeps (Keeps.setCell _ _ 0 _) (by omega)).keeps (Keeps.setCell _ _ 4 _) (by omega), _, (HT3'.out.set0 0).set4 0, .inr ⟨1, by rw [HLx.out, if_pos h4, hI]; rfl, rfl⟩⟩
              rw [hV]
              clear hI HLx h4 hV
              go_wp2_with fail
              go_meet
              exact ⟨_, rfl, HM.out⟩
            · have hV : rsignV a ((sb s).drop a) = .tuple #[.int .i64 0, .int .i64 0, .int .i64 (a : Int)] := by unfold rsignV; rw [hI]; simp only; rw [HHd.out, if_neg h4]
              have HM : Hid (RMid w ((w3.setCell ⟨w.heap.size + 1, 0, none⟩ (.int .i64 0)).setCell ⟨w.heap.size + 1, 4, none⟩ (.int .i64 0)) a (lexF ((sb s).drop a)) (a : Int)) :=
                ⟨(HB3.out.setCell (by show w.heap.size ≤ w.heap.size + 1; omega) _).setCell (by show w.heap.size ≤ w.heap.size + 1; omega) _, (HR3.out.keeps (Keeps.setCell _ _ 0 _) (by omega)).keeps (Keeps.setCell _ _ 4 _) (by omega), _, (HT3'.out.set0 0).set4 0, .inr ⟨0, by rw [HLx.out, if_neg h4], rfl⟩⟩
              rw [hV]
              clear hI HLx h4 hV
              go_wp2_with fail
              go_meet
              exact ⟨_, rfl, HM.out⟩
  case rest =>
    obtain ⟨bad, rfl, hb, hr, t, hg, hc⟩ := hcut
    clear HDg
    have HBc : Hid (Below w.heap.size w wc) := hb
    have HRc : Hid (TokB wc w.heap.size ⟨0, 0, [], 0, 0⟩) := hr
    have HGc : Hid (TokB wc (w.heap.size + 1) t) := hg
    obtain ⟨g0, g1, g2, g3, g4⟩ := hg.cells
    obtain ⟨r0, r1, r2, r3, r4⟩ := hr.cells
    have f0 := hr.thawed 0
    have f1 := hr.thawed 1
    have f2 := hr.thawed 2
    have f3 := hr.thawed 3
    have f4 := hr.thawed 4
    rcases hc with ⟨x, k, hl, rfl, rfl⟩ | ⟨k, hl, rfl⟩
    · have HL : Hid (lexF ((sb s).drop a) = .ok x k) := hl
      clear hl hb hr hg
      go_wp2_with fail
      refine bodyPost_ret (v := .tuple #[tokV x.1 x.2.1 x.2.2 a (a + k), .int .i64 (-1)]) (ret_tok (((((HRc.out.set0 x.1).set1 x.2.1).set2 x.2.2).set3 a).set4 (a + k)) rfl rfl) rfl ?_
      rw [HL.out]
      exact ⟨rfl, ((((HBc.out.setCell (Nat.le_refl _) _).setCell (Nat.le_refl _) _).setCell (Nat.le_refl _) _).setCell (Nat.le_refl _) _).setCell (Nat.le_refl _) _⟩
    · have HL : Hid (lexF ((sb s).drop a) = .bad k) := hl
      clear hl hb hr hg
      go_wp2_with fail
      refine bodyPost_ret (v := .tuple #[tokV 0 0 [] 0 0, .int .i64 ((a + k : Nat) : Int)]) (ret_tok (((((HRc.out.set0 0).set1 0).set2 []).set3 0).set4 0) rfl rfl) rfl ?_
      rw [HL.out]
      exact ⟨rfl, ((((HBc.out.setCell (Nat.le_refl _) _).setCell (Nat.le_refl _) _).setCell (Nat.le_refl _) _).setCell (Nat.le_refl _) _).setCell (Nat.le_refl _) _⟩
end Go.Proofs.YtlhecgokedckdaaDoor
