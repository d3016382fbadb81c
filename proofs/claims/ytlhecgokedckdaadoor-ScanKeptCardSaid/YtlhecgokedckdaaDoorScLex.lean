/- Scan: lexeme. -/
import Derived.Test.YtlhecgokedckdaaDoorScTok
import Derived.Deep.RegionLaw
namespace Go.Proofs.YtlhecgokedckdaaDoor
open Go.RowKit Sc
/-- where lexeme stands behind its switch -/
def LexMid (w : World) (p : Nat) (v : Value) (zs : List Nat) (lv : Value) (a : Nat) (wx : World) (okb : Bool) : Prop :=
  ∃ kd n s len, CutB wx p v (a + len) lv ∧ TokB wx w.heap.size ⟨kd, n, s, a, 0⟩ ∧ Keeps (fun k => k = p) w wx ∧ Sc.lexF (zs.drop a) = if okb = true then .ok (kd, n, s) len else .bad len
/-- the lexeme that begins at a place, if there is one -/
def lexToks (l : List Nat) (a : Nat) : List Tok := match Sc.lexF l with | .ok x len => [⟨x.1, x.2.1, x.2.2, a, a + len⟩] | .bad _ => []
theorem cells_one {t : Tok} : (encT t).toArray = #[.int .i64 (t.kind : Int), .int .u64 (t.n : Int), .string (mkS t.s), .int .i64 (t.at_ : Int), .int .i64 (t.end_ : Int)] := rfl
theorem TokB.new (w : World) (t : Tok) : TokB (w.alloc (.cells #[.int .i64 (t.kind : Int), .int .u64 (t.n : Int), .string (mkS t.s), .int .i64 (t.at_ : Int), .int .i64 (t.end_ : Int)] 38)) w.heap.size t := heap_alloc_new w _
theorem TokB.set0 {w : World} {g : Nat} {t : Tok} (h : TokB w g t) (x : Nat) : TokB (w.setCell ⟨g, 0, none⟩ (.int .i64 (x : Int))) g { t with kind := x } := by
  have h' : w.heap[g]? = _ := h
  simp [TokB, World.setCell, Array.getElem?_modify, h', encT]
theorem TokB.set1 {w : World} {g : Nat} {t : Tok} (h : TokB w g t) (x : Nat) : TokB (w.setCell ⟨g, 1, none⟩ (.int .u64 (x : Int))) g { t with n := x } := by
  have h' : w.heap[g]? = _ := h
  simp [TokB, World.setCell, Array.getElem?_modify, h', encT]
theorem TokB.set2 {w : World} {g : Nat} {t : Tok} (h : TokB w g t) (x : List Nat) : TokB (w.setCell ⟨g, 2, none⟩ (.string (mkS x))) g { t with s := x } := by
  have h' : w.heap[g]? = _ := h
  simp [TokB, World.setCell, Array.getElem?_modify, h', encT]
theorem TokB.set4 {w : World} {g : Nat} {t : Tok} (h : TokB w g t) (x : Nat) : TokB (w.setCell ⟨g, 4, none⟩ (.int .i64 (x : Int))) g { t with end_ := x } := by
  have h' : w.heap[g]? = _ := h
  simp [TokB, World.setCell, Array.getElem?_modify, h', encT]
theorem Keeps.setNew {S : Nat → Prop} {w w' : World} (h : Keeps S w w') {b : Nat} (hb : w.heap.size ≤ b) (i : Nat) (u : Value) : Keeps S w (w'.setCell ⟨b, i, none⟩ u) :=
  h.trans (Keeps.setCell w' b i u) (fun k hk e => absurd e (by omega))
set_option maxRecDepth 100000 in
set_option maxHeartbeats 1000000 in
theorem lexeme_any {w : World} {p : Nat} {v : Value} {a : Nat} {lv : Value} {zs : List Nat} {base : Nat} {ts : List Tok} (ht : Tabs w) (h : CutB w p v a lv) (hs : Sl w v zs) (hp : v.ownBlock ≠ some p) (hp9 : 9 ≤ p) (ha : a < zs.length) (hmax : zs.length ≤ 1048576)
    (ho : OwnT w base lv ts) (hlp : lv.ownBlock ≠ some p) (hbase : base ≤ w.heap.size) (hts : ts.length ≤ 1048576) :
    Calls Tryd.prog 20 #[.pointer (some ⟨p, 0, none⟩)] w fun e w' => e = .returned (.bool (Sc.lexF (zs.drop a)).isOk) ∧ ∃ lv', CutB w' p v (a + (Sc.lexF (zs.drop a)).len) lv' ∧ OwnT w' base lv' (ts ++ lexToks (zs.drop a) a) ∧ Keeps (fun k => k = p ∨ lv.ownBlock = some k) w w' ∧ At w lv lv' := by
  have hlen := hs.len
  unfold maxLen at hlen
  have hpl := h.lt
  have c1 := h.cell1
  have hvl : ∀ k, v.ownBlock = some k → k < w.heap.size := by
    obtain ⟨b, o, cap, rfl, _, hc⟩ := hs.at ha
    intro k hk
    cases hk
    have := World.block_lt_of_cell? w _ hc
    exact this
  obtain ⟨W, hW⟩ : ∃ W, w.alloc (.cells #[.int .i64 0, .int .u64 0, .string ⟨#[]⟩, .int .i64 (a : Int), .int .i64 0] 38) = W := ⟨_, rfl⟩
  have hb0 : Below w.heap.size w W := hW ▸ (Below.refl _ _).alloc (Nat.le_refl _) _
  have HK0 : Hid (Keeps (fun k => k = p) w W) := Keeps.of_below hb0
  have HG0 : Hid (TokB W w.heap.size ⟨0, 0, [], a, 0⟩) := hW ▸ (heap_alloc_new w _ : TokB (w.alloc (.cells #[.int .i64 0, .int .u64 0, .string ⟨#[]⟩, .int .i64 (a : Int), .int .i64 0] 38)) w.heap.size ⟨0, 0, [], a, 0⟩)
  have HT : Hid (Tabs W) := ht.below hb0
  have HC : Hid (CutB W p v a lv) := h.below hb0
  have HS : Hid (Sl W v zs) := hs.below hb0
  have HO : Hid (OwnT w base lv ts) := ho
  have HWe : Hid (w.alloc (.cells #[.int .i64 0, .int .u64 0, .string ⟨#[]⟩, .int .i64 (a : Int), .int .i64 0] 38) = W) := hW
  clear hW
  have hz := hs.byte a
  have HA : Hid (Calls Tryd.prog 31 #[.pointer (some ⟨p, 0, none⟩)] W fun e w' => e = .returned (.int .u8 (zs.getD a 0 : Nat)) ∧ Below W.heap.size W w') := ahead_any HC.out HS.out
  have HCl : Hid (∀ W', Below W.heap.size W W' → Calls Tryd.prog 30 #[.int .u8 ((zs.getD a 0 : Nat) : Int)] W' fun e w' => e = .returned (.int .u8 (Sc.cls (zs.getD a 0) : Nat)) ∧ w' = W') := fun W' hW' => class_any hz (HT.out.below hW')
  have hlx : Sc.lexF (zs.drop a) = if Sc.cls (zs.getD a 0) = 5 then (Sc.wordF (zs.drop a)).map fun x => (x.1, 0, x.2) else if Sc.cls (zs.getD a 0) = 6 then (Sc.integerF (zs.drop a)).map fun x => (2, x, []) else if Sc.cls (zs.getD a 0) = 3 then ((Sc.textF (zs.drop (a + 1))).shift 1).map fun x => (3, 0, x) else if Sc.cls (zs.getD a 0) = 4 then (Sc.signF (zs.drop a)).map fun x => (x, 0, []) else .bad 0 := by
    have e : (zs.drop a).headD 0 = zs.getD a 0 := by rw [Sc.drop_getD ha]; rfl
    unfold Sc.lexF
    rw [e, List.drop_drop]
  clear ht h hs ho hb0
  generalize zs.getD a 0 = z at *
  generalize Sc.cls z = c at *
  go_enter Tryd.func20, Tryd.ntmps20
  go_wp2_with fail
  rw [HWe.out]
  refine HA.out.mono ?_
  rintro e w1 ⟨rfl, hb1⟩
  clear HWe
  have HK1 : Hid (Keeps (fun k => k = p) w w1) := HK0.out.trans (Keeps.of_below (S := fun _ => False) hb1) (fun _ _ e => e.elim)
  have HG1 : Hid (TokB w1 w.heap.size ⟨0, 0, [], a, 0⟩) := HG0.out.keeps (Keeps.of_below (S := fun _ => False) hb1) (fun e => e)
  have HT1 : Hid (Tabs w1) := HT.out.below hb1
  have HC1 : Hid (CutB w1 p v a lv) := HC.out.below hb1
  have HS1 : Hid (Sl w1 v zs) := HS.out.below hb1
  have HCl1 : Hid (Calls Tryd.prog 30 #[.int .u8 (z : Int)] w1 fun e w' => e = .returned (.int .u8 (c : Nat)) ∧ w' = w1) := HCl.out w1 hb1
  clear hb1 HA HCl HK0 HG0 HT HC HS c1
  go_wp2_with fail
  refine HCl1.out.mono ?_
  rintro e w2 ⟨rfl, rfl⟩
  clear HCl1
  go_upto_block 0 with fail
  go_cut [4] (fun y wx => ∃ okb, y = .bool okb ∧ LexMid w p v zs lv a wx okb)
  case first =>
    have HGt := HG1.out
    obtain ⟨g0, g1, g2, g3, g4⟩ := HGt.cells
    have f0 := HGt.thawed 0
    have f1 := HGt.thawed 1
    have f2 := HGt.thawed 2
    clear HGt
    by_cases k5 : c = 5
    · subst k5
      have HW : Hid (Calls Tryd.prog 32 #[.pointer (some ⟨p, 0, none⟩)] w2 fun e w' => e = .returned (wordV (Sc.wordF (zs.drop a))) ∧ CutB w' p v (a + (Sc.wordF (zs.drop a)).len) lv ∧ Keeps (fun k => k = p) w2 w') := word_any HT1.out HC1.out HS1.out hp hp9 ha
      rw [if_pos rfl] at hlx
      go_wp2_with fail
      refine HW.out.mono ?_
      rintro e w3 ⟨rfl, hc3, hk3⟩
      have HG3 : TokB w3 w.heap.size ⟨0, 0, [], a, 0⟩ := HG1.out.keeps hk3 (by omega)
      have HK3 : Keeps (fun k => k = p) w w3 := HK1.out.trans hk3 (fun _ _ e => e)
      clear HW hk3
      cases hwf : Sc.wordF (zs.drop a) with
      | ok x len =>
        rw [hwf] at hlx hc3
        have HR : Hid (LexMid w p v zs lv a ((w3.setCell ⟨w.heap.size, 0, none⟩ (.int .i64 (x.1 : Int))).setCell ⟨w.heap.size, 2, none⟩ (.string (mkS x.2))) true) :=
          ⟨x.1, 0, x.2, len, (hc3.keeps (Keeps.setCell _ _ 0 _) (by omega)).keeps (Keeps.setCell _ _ 2 _) (by omega), (HG3.set0 x.1).set2 x.2, (HK3.setNew (Nat.le_refl _) 0 _).setNew (Nat.le_refl _) 2 _, hlx⟩
        obtain ⟨g0, g1, g2, g3, g4⟩ := HG3.cells
        have f0 := HG3.thawed 0
        have f2 := HG3.thawed 2
        clear hlx hwf hc3
        unfold wordV
        go_wp2_with fail
        go_meet
        exact ⟨true, rfl, HR.out⟩
      | bad len =>
        rw [hwf] at hlx hc3
        have HR : Hid (LexMid w p v zs lv a ((w3.setCell ⟨w.heap.size, 0, none⟩ (.int .i64 0)).setCell ⟨w.heap.size, 2, none⟩ (.string ⟨#[]⟩)) false) :=
          ⟨0, 0, [], len, (hc3.keeps (Keeps.setCell _ _ 0 _) (by omega)).keeps (Keeps.setCell _ _ 2 _) (by omega), (HG3.set0 0).set2 [], (HK3.setNew (Nat.le_refl _) 0 _).setNew (Nat.le_refl _) 2 _, hlx⟩
        obtain ⟨g0, g1, g2, g3, g4⟩ := HG3.cells
        have f0 := HG3.thawed 0
        have f2 := HG3.thawed 2
        clear hlx hwf hc3
        unfold wordV
        go_wp2_with fail
        go_meet
        exact ⟨false, rfl, HR.out⟩
    · rw [if_neg k5] at hlx
      have q5 : ((c : Int) == 5) = false := beq_eq_false_iff_ne.2 (by omega)
      by_cases k6 : c = 6
      · subst k6
        rw [if_pos rfl] at hlx
        have HKa : Hid (Keeps (fun k => k = w.heap.size) w2 (w2.setCell ⟨w.heap.size, 0, none⟩ (.int .i64 2))) := Keeps.setCell _ _ 0 _
        have HGa : Hid (TokB (w2.setCell ⟨w.heap.size, 0, none⟩ (.int .i64 2)) w.heap.size ⟨2, 0, [], a, 0⟩) := HG1.out.set0 2
        have HW : Hid (Calls Tryd.prog 33 #[.pointer (some ⟨p, 0, none⟩)] (w2.setCell ⟨w.heap.size, 0, none⟩ (.int .i64 2)) fun e w' => e = .returned (intV (Sc.integerF (zs.drop a))) ∧ CutB w' p v (a + (Sc.integerF (zs.drop a)).len) lv ∧ Keeps (fun k => k = p) (w2.setCell ⟨w.heap.size, 0, none⟩ (.int .i64 2)) w') := integer_any (HT1.out.keeps HKa.out (fun k hk e => by omega)) (HC1.out.keeps HKa.out (by omega)) (HS1.out.keeps HKa.out (fun k hk e => by have := hvl k hk; omega)) hp hp9 ha
        go_wp2_with fail
        refine HW.out.mono ?_
        rintro e w3 ⟨rfl, hc3, hk3⟩
        have HG3 : TokB w3 w.heap.size ⟨2, 0, [], a, 0⟩ := HGa.out.keeps hk3 (by omega)
        have HK3 : Keeps (fun k => k = p) w w3 := (HK1.out.setNew (Nat.le_refl _) 0 _).trans hk3 (fun _ _ e => e)
        clear HW hk3
        cases hwf : Sc.integerF (zs.drop a) with
        | ok x len =>
          rw [hwf] at hlx hc3
          have HR : Hid (LexMid w p v zs lv a (w3.setCell ⟨w.heap.size, 1, none⟩ (.int .u64 (x : Int))) true) :=
            ⟨2, x, [], len, (hc3.keeps (Keeps.setCell _ _ 1 _) (by omega)), HG3.set1 x, (HK3.setNew (Nat.le_refl _) 1 _), hlx⟩
          obtain ⟨g0, g1, g2, g3, g4⟩ := HG3.cells
          have f1 := HG3.thawed 1
          clear hlx hwf hc3
          unfold intV
          go_wp2_with fail
          go_meet
          exact ⟨true, rfl, HR.out⟩
        | bad len =>
          rw [hwf] at hlx hc3
          have HR : Hid (LexMid w p v zs lv a (w3.setCell ⟨w.heap.size, 1, none⟩ (.int .u64 0)) false) :=
            ⟨2, 0, [], len, (hc3.keeps (Keeps.setCell _ _ 1 _) (by omega)), HG3.set1 0, (HK3.setNew (Nat.le_refl _) 1 _), hlx⟩
          obtain ⟨g0, g1, g2, g3, g4⟩ := HG3.cells
          have f1 := HG3.thawed 1
          clear hlx hwf hc3
          unfold intV
          go_wp2_with fail
          go_meet
          exact ⟨false, rfl, HR.out⟩
      · rw [if_neg k6] at hlx
        have q6 : ((c : Int) == 6) = false := beq_eq_false_iff_ne.2 (by omega)
        by_cases k3 : c = 3
        · subst k3
          rw [if_pos rfl] at hlx
          have HKa : Hid (Keeps (fun k => k = w.heap.size) w2 (w2.setCell ⟨w.heap.size, 0, none⟩ (.int .i64 3))) := Keeps.setCell _ _ 0 _
          have HGa : Hid (TokB (w2.setCell ⟨w.heap.size, 0, none⟩ (.int .i64 3)) w.heap.size ⟨3, 0, [], a, 0⟩) := HG1.out.set0 3
          have HW : Hid (Calls Tryd.prog 34 #[.pointer (some ⟨p, 0, none⟩)] (w2.setCell ⟨w.heap.size, 0, none⟩ (.int .i64 3)) fun e w' => e = .returned (textV (Sc.textF (zs.drop (a + 1)))) ∧ CutB w' p v (a + ((Sc.textF (zs.drop (a + 1))).len + 1)) lv ∧ Keeps (fun k => k = p) (w2.setCell ⟨w.heap.size, 0, none⟩ (.int .i64 3)) w') := text_any (HC1.out.keeps HKa.out (by omega)) (HS1.out.keeps HKa.out (fun k hk e => by have := hvl k hk; omega)) hp ha hmax
          go_wp2_with fail
          refine HW.out.mono ?_
          rintro e w3 ⟨rfl, hc3, hk3⟩
          have HG3 : TokB w3 w.heap.size ⟨3, 0, [], a, 0⟩ := HGa.out.keeps hk3 (by omega)
          have HK3 : Keeps (fun k => k = p) w w3 := (HK1.out.setNew (Nat.le_refl _) 0 _).trans hk3 (fun _ _ e => e)
          clear HW hk3
          cases hwf : Sc.textF (zs.drop (a + 1)) with
          | ok x len =>
            rw [hwf] at hlx hc3
            simp only [Sc.Res.shift, Sc.Res.map, Nat.add_comm 1 len] at hlx
            have HR : Hid (LexMid w p v zs lv a (w3.setCell ⟨w.heap.size, 2, none⟩ (.string (mkS x))) true) :=
              ⟨3, 0, x, len + 1, (hc3.keeps (Keeps.setCell _ _ 2 _) (by omega)), HG3.set2 x, (HK3.setNew (Nat.le_refl _) 2 _), hlx⟩
            obtain ⟨g0, g1, g2, g3, g4⟩ := HG3.cells
            have f2 := HG3.thawed 2
            clear hlx hwf hc3
            unfold textV
            go_wp2_with fail
            go_meet
            exact ⟨true, rfl, HR.out⟩
          | bad len =>
            rw [hwf] at hlx hc3
            simp only [Sc.Res.shift, Sc.Res.map, Nat.add_comm 1 len] at hlx
            have HR : Hid (LexMid w p v zs lv a (w3.setCell ⟨w.heap.size, 2, none⟩ (.string ⟨#[]⟩)) false) :=
              ⟨3, 0, [], len + 1, (hc3.keeps (Keeps.setCell _ _ 2 _) (by omega)), HG3.set2 [], (HK3.setNew (Nat.le_refl _) 2 _), hlx⟩
            obtain ⟨g0, g1, g2, g3, g4⟩ := HG3.cells
            have f2 := HG3.thawed 2
            clear hlx hwf hc3
            unfold textV
            go_wp2_with fail
            go_meet
            exact ⟨false, rfl, HR.out⟩
        · rw [if_neg k3] at hlx
          have q3 : ((c : Int) == 3) = false := beq_eq_false_iff_ne.2 (by omega)
          by_cases k4 : c = 4
          · subst k4
            rw [if_pos rfl] at hlx
            have HW : Hid (Calls Tryd.prog 35 #[.pointer (some ⟨p, 0, none⟩)] w2 fun e w' => e = .returned (signV (Sc.signF (zs.drop a))) ∧ CutB w' p v (a + (Sc.signF (zs.drop a)).len) lv ∧ Keeps (fun k => k = p) w2 w') := sign_any HT1.out HC1.out HS1.out ha
            go_wp2_with fail
            refine HW.out.mono ?_
            rintro e w3 ⟨rfl, hc3, hk3⟩
            have HG3 : TokB w3 w.heap.size ⟨0, 0, [], a, 0⟩ := HG1.out.keeps hk3 (by omega)
            have HK3 : Keeps (fun k => k = p) w w3 := HK1.out.trans hk3 (fun _ _ e => e)
            clear HW hk3
            cases hwf : Sc.signF (zs.drop a) with
            | ok x len =>
              rw [hwf] at hlx hc3
              have HR : Hid (LexMid w p v zs lv a (w3.setCell ⟨w.heap.size, 0, none⟩ (.int .i64 (x : Int))) true) :=
                ⟨x, 0, [], len, (hc3.keeps (Keeps.setCell _ _ 0 _) (by omega)), HG3.set0 x, (HK3.setNew (Nat.le_refl _) 0 _), hlx⟩
              obtain ⟨g0, g1, g2, g3, g4⟩ := HG3.cells
              have f0 := HG3.thawed 0
              clear hlx hwf hc3
              unfold signV
              go_wp2_with fail
              go_meet
              exact ⟨true, rfl, HR.out⟩
            | bad len =>
              rw [hwf] at hlx hc3
              have HR : Hid (LexMid w p v zs lv a (w3.setCell ⟨w.heap.size, 0, none⟩ (.int .i64 0)) false) :=
                ⟨0, 0, [], len, (hc3.keeps (Keeps.setCell _ _ 0 _) (by omega)), HG3.set0 0, (HK3.setNew (Nat.le_refl _) 0 _), hlx⟩
              obtain ⟨g0, g1, g2, g3, g4⟩ := HG3.cells
              have f0 := HG3.thawed 0
              clear hlx hwf hc3
              unfold signV
              go_wp2_with fail
              go_meet
              exact ⟨false, rfl, HR.out⟩
          · rw [if_neg k4] at hlx
            have q4 : ((c : Int) == 4) = false := beq_eq_false_iff_ne.2 (by omega)
            have HR : Hid (LexMid w p v zs lv a w2 false) := ⟨0, 0, [], 0, HC1.out, HG1.out, HK1.out, hlx⟩
            clear hlx
            go_wp2_with fail
            go_meet
            exact ⟨false, rfl, HR.out⟩
  case rest =>
    obtain ⟨okb, rfl, kd, n, s, len, hc, hg, hk, hl⟩ := hcut
    clear HT1 HC1 HS1 HG1 HK1 hlx
    have c1 := hc.cell1
    obtain ⟨g0, g1, g2, g3, g4⟩ := hg.cells
    have f4 := hg.thawed 4
    have HG2 : Hid (TokB (wc.setCell ⟨w.heap.size, 4, none⟩ (.int .i64 ((a + len : Nat) : Int))) w.heap.size ⟨kd, n, s, a, a + len⟩) := hg.set4 (a + len)
    have HC2 : Hid (CutB (wc.setCell ⟨w.heap.size, 4, none⟩ (.int .i64 ((a + len : Nat) : Int))) p v (a + len) lv) := hc.keeps (Keeps.setCell _ _ 4 _) (by omega)
    have HK2 : Hid (Keeps (fun k => k = p) w (wc.setCell ⟨w.heap.size, 4, none⟩ (.int .i64 ((a + len : Nat) : Int)))) := hk.setNew (Nat.le_refl _) 4 _
    obtain ⟨W2, hW2⟩ : ∃ W2, wc.setCell ⟨w.heap.size, 4, none⟩ (.int .i64 ((a : Int) + (len : Int))) = W2 := ⟨_, rfl⟩
    have HG3 : Hid (TokB W2 w.heap.size ⟨kd, n, s, a, a + len⟩) := hW2 ▸ HG2.out
    have HC3 : Hid (CutB W2 p v (a + len) lv) := hW2 ▸ HC2.out
    have HK3 : Hid (Keeps (fun k => k = p) w W2) := hW2 ▸ HK2.out
    have HWe : Hid (wc.setCell ⟨w.heap.size, 4, none⟩ (.int .i64 ((a : Int) + (len : Int))) = W2) := hW2
    clear hW2 HG2 HC2 HK2
    cases okb with
    | false =>
      have HE : Hid (Sc.lexF (zs.drop a) = .bad len) := hl
      clear hl hc hg hk
      go_wp2_with fail
      rw [HWe.out]
      go_ret
      unfold lexToks
      rw [HE.out]
      refine ⟨rfl, lv, HC3.out, ?_, HK3.out.mono (fun _ _ e => .inl e), At.refl _ _⟩
      rw [List.append_nil]
      exact HO.out.keeps HK3.out (fun k hk e => hlp (e ▸ hk))
    | true =>
      have HE : Hid (Sc.lexF (zs.drop a) = .ok (kd, n, s) len) := hl
      clear hl hc hg hk
      go_wp2_with fail
      rw [HWe.out]
      have d2 := HC3.out.cell2
      clear c1 g0 g1 g2 g3 g4
      obtain ⟨g0, g1, g2, g3, g4⟩ := HG3.out.cells
      have hpn := HC3.out.lt
      have HOx : Hid (∀ X, OwnT (W2.alloc X) base lv ts) := fun X => (HO.out.keeps HK3.out (fun k hk e => hlp (e ▸ hk))).below ((Below.refl _ _).alloc (Nat.le_refl _) _)
      have HBs : Hid (base ≤ W2.heap.size) := Nat.le_trans hbase HK3.out.size
      have HPx : Hid (∀ (X : Obj) v2 w2, (W2.alloc X).drew.grownBy w2 lv.ownBlock → (v2.ownBlock = lv.ownBlock ∨ v2.ownBlock = some (W2.alloc X).drew.heap.size) → CutB w2 p v (a + len) lv ∧ Keeps (fun k => k = p ∨ lv.ownBlock = some k) w w2 ∧ At w lv v2 ∧ TokB w2 w.heap.size ⟨kd, n, s, a, a + len⟩) := fun X v2 w2 g l => by
        have hka : Keeps (fun k => lv.ownBlock = some k) W2 w2 := (Keeps.alloc (S := fun k => lv.ownBlock = some k) W2 X).drew.trans (Keeps.of_grown g) (fun _ _ e => e)
        refine ⟨HC3.out.keeps hka hlp, (HK3.out.mono (fun _ _ e => .inl e)).trans hka (fun _ _ e => .inr e), ?_, HG3.out.keeps hka (fun e => by have := (HO.out.lt _ e).2; omega)⟩
        rcases l with l | l
        · exact .inl l
        · exact .inr ⟨_, l, Nat.le_trans HK3.out.size (by simp)⟩
      go_region_law ((refine step_appendT (v := lv) (by kernel_rfl) (.tmp 59) (.tmp 61) (by rfl) ⟨kd, n, s, a, a + len⟩ (by rfl) (by exact HOx.out _) (by rfl) (by exact heap_alloc_new W2 _) hts (by simp; exact Nat.le_succ_of_le HBs.out) ?_; intro v2 w2 h2 g2 l2; obtain ⟨va, vc, hv2⟩ := h2.form; subst hv2; have HO2 : Hid (OwnT w2 base _ (ts ++ [⟨kd, n, s, a, a + len⟩])) := h2; have HX : Hid (CutB w2 p v (a + len) lv ∧ Keeps (fun k => k = p ∨ lv.ownBlock = some k) w w2 ∧ At w lv (.slice va _ vc) ∧ TokB w2 w.heap.size ⟨kd, n, s, a, a + len⟩) := HPx.out _ _ w2 g2 l2; have e2 := HX.out.1.cell2; have t2 := HX.out.1.thawed 2; obtain ⟨x0, x1, x2, x3, x4⟩ := HX.out.2.2.2.cells; clear h2 g2 l2))
      all_goals
        go_wp2_with fail
        go_ret
        unfold lexToks
        rw [HE.out]
        obtain ⟨x1, x2, x3, _⟩ := HX.out
        have ho := HO2.out
        simp only [List.length_append, List.length_cons, List.length_nil, Nat.zero_add] at ho x3
        refine ⟨rfl, _, x1.list _, ho.keeps (Keeps.setCell w2 p 2 _) (fun k hk e => ?_), x2.trans (Keeps.setCell w2 p 2 _) (fun _ _ e => .inl e), x3⟩
        rcases x3 with x3 | ⟨j, x3, hj⟩
        · rw [hk, e] at x3
          exact hlp x3.symm
        · rw [hk] at x3
          cases x3
          omega
end Go.Proofs.YtlhecgokedckdaaDoor
