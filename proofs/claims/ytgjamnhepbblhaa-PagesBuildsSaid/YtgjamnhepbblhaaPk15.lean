import Derived.Test.YtgjamnhepbblhaaPk14
import Derived.Deep.MidRow
import Derived.Shelf.Abstract
/- Books of leaves: Apart (written by parts/gen_tka.py off BkApart). Own work. -/
namespace Go.Proofs.Ytgjamnhepbblhaa
open Go.RowKit Wk Go.Shelf
set_option linter.unusedVariables false
/-- no two of the lists lie in one block -/
def DisL (E : List EntL) : Prop := ∀ i i' (h : i < E.length) (h' : i' < E.length), i ≠ i' → ∀ g n c g' n' c', E[i].lv = .slice (some ⟨g, 0, none⟩) n c → E[i'].lv = .slice (some ⟨g', 0, none⟩) n' c' → g ≠ g'
theorem keeps_cells (b : Nat) : ∀ (vs : List Value) (o : Nat) (w : World), Keeps (fun k => k = b) w (w.setCells b o vs)
  | [], _, w => Keeps.refl _ w
  | v :: r, o, w => (Keeps.setCell w b o v).trans (keeps_cells b r (o + 1) _) (fun _ _ h => h)
/-- a mark -/
def mkL (k a : Int) : Array Value := #[.int .u64 0, .int .u64 0, .int .i64 k, .bool false, .bool false, .bool false]
theorem mkL_one (k a : Int) : (mkL k a).all (·.oneCell') = true := by kernel_rfl
theorem neq_mkL (w : World) (k a : Int) : (binOp .neq 34 (.agg (mkL k a)) (.agg (mkL k a))).run Try.prog w = .ok (.bool false) w := leaf_neq ⟨0, 0, k, false, false, false⟩ w
theorem mkL_len (k a : Int) : (mkL k a).toList.length = 6 := by rfl
theorem neq_execL {o : Oper} {a : Act} {w : World} {x y : Operand} {t' : TypeId} {k b : Int} (ho : o.op = .binOp .neq 34 x y t') (hx : a.eval x = .agg (mkL k b)) (hy : a.eval y = .agg (mkL k b)) : (execOp a.eval o).run Try.prog w = .ok (.value (.bool false)) w := by
  have hg : (eqGuard .neq 34 x y (.agg (mkL k b)) (.agg (mkL k b))).run Try.prog w = .ok () w := run_eqGuard_agg w _ _ _ _ _ _ guard_leaf
  unfold execOp
  simp only [ho, hx, hy, Sem.run_bind, Sem.run_pure, Result.andThen_ok, hg, neq_mkL]
theorem info_qL : (Try.prog.info? 34).map (·.size) = some 6 := by kernel_rfl
/-- one of the operations that may come next: a call of a func value -/
theorem readyEnterL {P : Program} {md : Region.Mode} {ops : Array Oper} {Q : Exit → Act → World → Prop} {S : World → Prop} {i d : Nat} {o : Oper} {fuel : Nat} {listed : Array Bool} {a : Act} {w : World} {rs : List Nat} (hi : ops[i]? = some o) (hd : o.dst = some d) (hw : Region.wanted o (yielded ops a.tmps) = true)
    (f : FuncId) (args : Array Value) (hv : (execOp a.eval o).run P w = .ok (.enter f args) w) {R : Value → World → Prop}
    (hc : Calls P f args w fun e w' => ∃ v, e = .returned v ∧ R v w') (hS : ∀ v w', R v w' → S w') (hK : ∀ v w', R v w' → S w' → wpAnyH P md ops Q S fuel (listed.setIfInBounds i true) (a.put (some d) v) w') (hs : AllReadyH P md ops Q S fuel listed a w rs) : AllReadyH P md ops Q S fuel listed a w (i :: rs) := by
  rw [← hd] at hK
  refine AllReadyH.cons hi (fun K hK' => ?_) hs
  rw [if_pos hw]
  unfold Oper.wp
  rw [hv, Oper.upon_enter]
  refine hc.mono ?_
  rintro e w' ⟨v, rfl, h⟩
  exact hK'.out _ _ (hS v w' h) (hK v w' h)
/-- the lists ahead of i are written full, of the list i the places ahead of j -/
structure WtL (w : World) (E : List EntL) (m : Nat → Nat → Int × Int) (i j : Nat) (wr : World) : Prop where
  keeps : Keeps (fun k => ∃ e ∈ E, e.lv.ownBlock = some k) w wr
  there : ∀ e ∈ E, ∀ g n c, e.lv = .slice (some ⟨g, 0, none⟩) n c → wr.there g 0 (c * 6)
  done : ∀ i' (h : i' < E.length), i' < i → ∀ g n c, E[i'].lv = .slice (some ⟨g, 0, none⟩) n c → ∀ jj, jj < c → wr.rangeAt g (jj * 6) (mkL (m i' jj).1 (m i' jj).2).toList
  part : ∀ (h : i < E.length) g n c, E[i].lv = .slice (some ⟨g, 0, none⟩) n c → ∀ jj, jj < j → jj < c → wr.rangeAt g (jj * 6) (mkL (m i jj).1 (m i jj).2).toList
theorem WtL.start {w w0 : World} {base : Nat} {E : List EntL} {m : Nat → Nat → Int × Int} (he : ∀ x ∈ E, x.ok w base) (hk : Keeps (fun _ => False) w w0) : WtL w0 E m 0 0 w0 := by
  refine ⟨Keeps.refl _ _, fun e hm g n c hv => ?_, fun i' _ h => by omega, fun _ _ _ _ _ _ h => by omega⟩
  have ho := (he e hm).l.keeps hk (fun _ _ => id)
  rw [hv] at ho
  rcases ho.2 with ⟨h, _⟩ | ⟨g', cap, cur, h, hb, hg, hl, hmx, hs, ht⟩
  · simp at h
  · simp only [Value.slice.injEq, Option.some.injEq, Addr.mk.injEq, and_true] at h
    obtain ⟨rfl, -, rfl⟩ := h
    intro j hj
    refine ⟨?_, by simp [World.frozen?, hg]⟩
    rw [cell_of_row _ _ _ _ _ _ hg, Nat.zero_add, Array.getElem?_eq_getElem (by omega)]
    rfl
theorem WtL.room {w wr : World} {E : List EntL} {m : Nat → Nat → Int × Int} {i j g n c jj : Nat} (h : WtL w E m i j wr) (hi : i < E.length) (e : E[i].lv = .slice (some ⟨g, 0, none⟩) n c) (hj : jj < c) : wr.there g (jj * 6) 6 := fun q hq => by
  have := h.there E[i] (List.getElem_mem _) g n c e (jj * 6 + q) (by omega)
  rwa [Nat.zero_add] at this
theorem WtL.step {w wr : World} {E : List EntL} {m : Nat → Nat → Int × Int} {i j g n c : Nat} (h : WtL w E m i j wr) (hi : i < E.length) (e : E[i].lv = .slice (some ⟨g, 0, none⟩) n c) (hj : j < c) (hd : DisL E) : WtL w E m i (j + 1) (wr.setCells g (j * 6) (mkL (m i j).1 (m i j).2).toList) := by
  refine ⟨h.keeps.trans (keeps_cells g _ _ _) (fun k _ hk => ⟨E[i], List.getElem_mem _, by rw [e, hk]; rfl⟩), fun x hm g' n' c' hv => World.there_setCells (h.there x hm g' n' c' hv) _ _ _, fun i' h' hlt g' n' c' hv jj hjj => ?_, fun h' g' n' c' hv jj hjj hjc => ?_⟩
  · have hne : g' ≠ g := hd i' i h' hi (by omega) g' n' c' g n c hv e
    exact World.rangeAt_setCells_apart (h.done i' h' hlt g' n' c' hv jj hjj) _ _ _ (.inl hne)
  · rw [e] at hv
    simp only [Value.slice.injEq, Option.some.injEq, Addr.mk.injEq, and_true] at hv
    obtain ⟨rfl, -, rfl⟩ := hv
    by_cases hq : jj = j
    · subst hq
      exact World.rangeAt_setCells_same _ _ _ _ (h.room hi e hj)
    · exact World.rangeAt_setCells_apart (h.part h' _ _ _ e jj (by omega) hjc) _ _ _ (.inr (by
        have e1 : (mkL (m i jj).1 (m i jj).2).toList.length = 6 := mkL_len _ _
        have e2 : (mkL (m i j).1 (m i j).2).toList.length = 6 := mkL_len _ _
        rw [e1, e2]
        omega))
theorem WtL.drew {w wr : World} {E : List EntL} {m : Nat → Nat → Int × Int} {i j : Nat} (h : WtL w E m i j wr) : WtL w E m i j wr.drew := ⟨h.keeps.drew, fun e he g n c hv => (World.there_drew _ _ _ _).2 (h.there e he g n c hv), fun i' h' hl g n c hv jj hj => (World.rangeAt_drew _ _ _ _).2 (h.done i' h' hl g n c hv jj hj), fun h' g n c hv jj hj hc => (World.rangeAt_drew _ _ _ _).2 (h.part h' g n c hv jj hj hc)⟩
theorem cell_ext {w w' : World} (k : Keeps (fun _ => False) w w') {g i : Nat} {v : Value} (h : w.cell? ⟨g, i, none⟩ = some v) : w'.cell? ⟨g, i, none⟩ = some v := (World.cell?_of_block (a := ⟨g, i, none⟩) (k.block g (World.block_lt_of_cell? w _ h) id)).trans h
theorem range_ext {w w' : World} {g o : Nat} {cs : List Value} (h : w.rangeAt g o cs) (k : Keeps (fun _ => False) w w') : w'.rangeAt g o cs := fun j v hv => cell_ext k (h j v hv)
theorem there_ext {w w' : World} {g o n : Nat} (h : w.there g o n) (k : Keeps (fun _ => False) w w') : w'.there g o n := fun j hj => by
  obtain ⟨h1, h2⟩ := h j hj
  obtain ⟨u, hu⟩ := Option.isSome_iff_exists.1 h1
  exact ⟨by rw [cell_ext k hu]; rfl, (World.frozen?_of_block (a := ⟨g, o + j, none⟩) (k.block g (World.block_lt_of_cell? w _ hu) id)).trans h2⟩
theorem WtL.ext {w wr w9 : World} {E : List EntL} {m : Nat → Nat → Int × Int} {i j : Nat} (h : WtL w E m i j wr) (k : Keeps (fun _ => False) wr w9) : WtL w E m i j w9 :=
  ⟨h.keeps.trans k (fun _ _ e => e.elim), fun e he g n c hv => there_ext (h.there e he g n c hv) k, fun i' h' hl g n c hv jj hj => range_ext (h.done i' h' hl g n c hv jj hj) k, fun h' g n c hv jj hj hc => range_ext (h.part h' g n c hv jj hj hc) k⟩
theorem WtL.next {w wr : World} {E : List EntL} {m : Nat → Nat → Int × Int} {i j : Nat} (h : WtL w E m i j wr) (hc : ∀ (hi : i < E.length) g n c, E[i].lv = .slice (some ⟨g, 0, none⟩) n c → c ≤ j) : WtL w E m (i + 1) 0 wr := by
  refine ⟨h.keeps, h.there, fun i' h' hlt g n c hv jj hjj => ?_, fun _ _ _ _ _ _ h => by omega⟩
  by_cases hq : i' = i
  · subst hq
    exact h.part h' g n c hv jj (Nat.lt_of_lt_of_le hjj (hc h' g n c hv)) hjj
  · exact h.done i' h' (by omega) g n c hv jj hjj
/-- the book stands where its lists are written -/
theorem BwL.wt {w wr : World} {base kb : Nat} {lv wv : Value} {held : Int} {E : List EntL} {m : Nat → Nat → Int × Int} {i j : Nat} (h : BwL w base kb lv wv held (E.map EntL.lv) (E.map EntL.wv)) (he : ∀ x ∈ E, x.ok w base) (k : WtL w E m i j wr) : BwL wr base kb lv wv held (E.map EntL.lv) (E.map EntL.wv) := by
  have tg : ∀ q, (∃ e ∈ E, e.lv.ownBlock = some q) → ∃ cur, w.heap[q]? = some (.cells cur 34 (0, 0)) := fun q ⟨e, hm, hq⟩ => (he e hm).l.tagB q hq
  refine ⟨(k.keeps.block kb h.lt (fun hs => ?_)).trans h.blk, h.lrow.keeps k.keeps (fun q hq hs => ?_), h.wrow.keeps k.keeps (fun q hq hs => ?_), h.ne⟩
  · obtain ⟨c, hc⟩ := tg _ hs
    rw [h.blk] at hc
    simp at hc
  · obtain ⟨c, hc⟩ := tg _ hs
    obtain ⟨d, hd⟩ := h.lrow.tag q hq
    rw [hd] at hc
    simp at hc
  · obtain ⟨c, hc⟩ := tg _ hs
    obtain ⟨d, hd⟩ := h.wrow.tag q hq
    rw [hd] at hc
    simp at hc
set_option maxRecDepth 100000 in
set_option maxHeartbeats 4000000 in
theorem apartL_any {w : World} {base kb fm : Nat} {lv wv : Value} {held : Int} {E : List EntL} {m : Nat → Nat → Int × Int} (h : BwL w base kb lv wv held (E.map EntL.lv) (E.map EntL.wv)) (he : ∀ x ∈ E, x.ok w base) (hlen : E.length ≤ 4000) (hd : DisL E) (hen : Enters Try.prog fm)
    (hm : ∀ (i j : Nat) (w : World), i ≤ 4000 → j < maxLen → Calls Try.prog fm #[.int .i64 (i : Int), .int .i64 (j : Int)] w fun e w' => e = .returned (.agg (mkL (m i j).1 (m i j).2)) ∧ Keeps (fun _ => False) w w') :
    Calls Try.prog 10 #[.pointer (some ⟨kb, 0, none⟩), .func (.func fm) #[] #[]] w fun e w' => e = .returned (.bool true) ∧ Keeps (fun k => k = kb ∨ ∃ e ∈ E, e.lv.ownBlock = some k) w w' := by
  have HSt := Lib.hid (staysL_any h he hlen)
  have HE : Hid (∀ x ∈ E, x.ok w base) := he
  have HBw := Lib.hid h
  have HD : Hid (DisL E) := hd
  have HM : Hid (∀ (i j : Nat) (w : World), i ≤ 4000 → j < maxLen → Calls Try.prog fm #[.int .i64 (i : Int), .int .i64 (j : Int)] w fun e w' => e = .returned (.agg (mkL (m i j).1 (m i j).2)) ∧ Keeps (fun _ => False) w w') := hm
  have he' : ∀ (args : Array Value) (w : World), (callFunc fm args).run Try.prog w = .ok (.enter fm args) w := hen
  clear h he hd hm
  go_enter Try.func10, Try.ntmps10
  go_wp2_with fail
  refine HSt.out.mono ?_
  rintro e w1 ⟨rfl, hb1, hk1⟩
  obtain ⟨a1, b1, rfl⟩ := hb1.lrow.form
  obtain ⟨a2, b2, rfl⟩ := hb1.wrow.form
  simp only [List.length_map] at hb1
  obtain ⟨n, hn⟩ : ∃ n, E.length = n := ⟨_, rfl⟩
  rw [hn] at hb1 hlen
  have HN : Hid (E.length = n) := hn
  have HB1 := Lib.hid hb1
  have HK1 : Hid (Keeps (fun k => k = kb) w w1) := hk1
  have HE1 : Hid (∀ x ∈ E, x.ok w1 base) := fun x hx => by
    have := HE.out x hx
    exact ⟨this.l.ke HBw.out.blk (hk1.keL (base := base)), this.w.ke HBw.out.blk (hk1.keL (base := base)), this.sm⟩
  have HF : Hid (∀ (i : Nat), i < n → ∃ pa pn pc, (E.map EntL.lv)[i]? = some (.slice pa pn pc) ∧ ((pa = none ∧ pn = 0 ∧ pc = 0 ∧ ∀ h : i < E.length, E[i].lv = .slice none 0 0) ∨ ∃ g, pa = some ⟨g, 0, none⟩ ∧ ∃ h : i < E.length, E[i].lv = .slice (some ⟨g, 0, none⟩) pn pc ∧ pn ≤ pc ∧ pc ≤ maxLen)) := fun i hi => by
    have hi' : i < E.length := by rw [HN.out]; exact hi
    rw [List.getElem?_map, List.getElem?_eq_getElem hi']
    rcases (HE1.out E[i] (List.getElem_mem _)).l.2 with ⟨e, _⟩ | ⟨g, cap, cur, e, hb, hg, h1, h2, _⟩
    · exact ⟨none, 0, 0, by rw [← e]; rfl, .inl ⟨rfl, rfl, rfl, fun _ => e⟩⟩
    · exact ⟨some ⟨g, 0, none⟩, _, cap, by rw [← e]; rfl, .inr ⟨g, rfl, hi', e, h1, h2⟩⟩
  clear hb1 hk1 hn HSt
  go_wp2_with fail
  go_loopw [5] (fun i wr => ∃ j : Nat, j ≤ n ∧ i = .int .i64 (j : Int) ∧ Hid (WtL w1 E m j 0 wr)) (fun i _ => n - (intOf i).toNat)
  case atStart => exact ⟨0, by omega, rfl, WtL.start HE1.out (Keeps.refl _ _)⟩
  case round =>
    obtain ⟨i, hi, rfl, HW⟩ := hrel
    have HB2 : Hid (BwL wr base kb (.slice a1 n b1) (.slice a2 n b2) held (E.map EntL.lv) (E.map EntL.wv)) := HB1.out.wt HE1.out HW.out
    obtain ⟨x0, x1, x2, x3⟩ := HB2.out.cells
    by_cases hin : i < n
    · have d1 : decide ((i : Int) < (n : Int)) = true := decide_eq_true (by omega)
      have ji : (i : Int) < (n : Int) := by omega
      have hw1 : IntKind.i64.wrap ((i : Int) + 1) = ((i + 1 : Nat) : Int) := by rw [IntKind.wrap_i64]; omega
      obtain ⟨g1, o1, c1', e1, hc1⟩ := HB2.out.lrow.some_of (by rw [List.length_map, HN.out]; omega)
      simp only [List.length_map, Value.slice.injEq] at e1
      obtain ⟨rfl, -, rfl⟩ := e1
      have y1 := HB2.out.lrow.cell i (by rw [List.length_map, HN.out]; omega)
      obtain ⟨pa, pn, pc, hgt, hform⟩ := HF.out i hin
      rw [List.getElem?_eq_getElem (by rw [List.length_map, HN.out]; omega)] at hgt
      rw [Option.some.inj hgt] at y1
      have HFm := Lib.hid hform
      clear hgt hc1
      go_upto_region 6 with fail
      go_cut [6] (fun y wx => y = .slice pa pc pc ∧ wx = wr.drew)
      case first =>
        rcases hform with ⟨rfl, rfl, rfl, -⟩ | ⟨g, rfl, _, _, hp1, hp2⟩
        · go_region_held3 (fun w' => w'.cell? ⟨kb, 0, none⟩ = some (.slice (some ⟨g1, o1, none⟩) n b1) ∧ w'.cell? ⟨g1, o1 + i, none⟩ = some (.slice none 0 0)) (go_keep) (fail)
          all_goals
            go_wp2_with fail
            go_meet
            exact ⟨rfl, rfl⟩
        · go_region_held3 (fun w' => w'.cell? ⟨kb, 0, none⟩ = some (.slice (some ⟨g1, o1, none⟩) n b1) ∧ w'.cell? ⟨g1, o1 + i, none⟩ = some (.slice (some ⟨g, 0, none⟩) pn pc)) (go_keep) (fail)
          all_goals
            go_wp2_with fail
            go_meet
            exact ⟨rfl, rfl⟩
      case rest =>
        obtain ⟨rfl, hw⟩ := hcut
        subst hw
        clear hform
        go_wp2_with fail
        go_loopw [7] (fun jv wq => ∃ jj : Nat, jj ≤ pc ∧ jv = .int .i64 (jj : Int) ∧ Hid (WtL w1 E m i jj wq)) (fun jv _ => pc - (intOf jv).toNat)
        case atStart => exact ⟨0, by omega, rfl, HW.out.drew⟩
        case round =>
          obtain ⟨jj, hjj, rfl, HQ⟩ := hrel
          by_cases hq : jj < pc
          · rcases HFm.out with ⟨_, _, h0, _⟩ | ⟨g, rfl, hi', hv, hp1, hp2⟩
            · omega
            · have d2 : decide ((jj : Int) < (pc : Int)) = true := decide_eq_true (by omega)
              have jji : (jj : Int) < (pc : Int) := by omega
              have hmx : pc ≤ 9223372036854775807 := by unfold maxLen at hp2; omega
              have hw2 : IntKind.i64.wrap ((jj : Int) + 1) = ((jj + 1 : Nat) : Int) := by rw [IntKind.wrap_i64]; omega
              have HSt : Hid (∀ w9, Keeps (fun _ => False) wr w9 → w9.there g (jj * 6) 6 ∧ WtL w1 E m i (jj + 1) (w9.setCells g (jj * 6) (mkL (m i jj).1 (m i jj).2).toList)) := fun w9 k9 => ⟨(HQ.out.ext k9).room hi' hv hq, (HQ.out.ext k9).step hi' hv hq HD.out⟩
              have HMc := Lib.hid (HM.out i jj wr (by omega) (by unfold maxLen; omega))
              clear hv hi' hp2 HQ
              go_wp2_with fail
              refine HMc.out.mono ?_
              rintro e w9 ⟨rfl, hw9⟩
              have HRm : Hid (w9.there g (jj * 6) 6) := (HSt.out w9 hw9).1
              have HQ2 := Lib.hid (HSt.out w9 hw9).2
              clear hw9
              go_wp2_with (refine wpList_store_mid (by rfl) 34 (.tmp 51) (.tmp 50) (by rfl) g (jj * 6) (mkL (m i jj).1 (m i jj).2) (by simp [Act.eval]) (by rfl) (by exact HRm.out) (by rw [info_qL]; rfl) (mkL_one _ _) ?_)
              go_roundw
              case rel => exact ⟨jj + 1, by omega, rfl, HQ2⟩
              case measure => simp [intOf]; omega
          · have d2 : decide ((jj : Int) < (pc : Int)) = false := decide_eq_false (by omega)
            obtain rfl : jj = pc := by omega
            have HQ2 : Hid (WtL w1 E m (i + 1) 0 wr) := HQ.out.next (fun hi' g n c hv => by
              rcases HFm.out with ⟨_, _, _, hv'⟩ | ⟨g', _, _, hv', _⟩
              · rw [hv' hi'] at hv
                simp at hv
              · rw [hv'] at hv
                simp only [Value.slice.injEq] at hv
                omega)
            go_wp2_with fail
            go_roundw
            case rel => exact ⟨i + 1, by omega, rfl, HQ2⟩
            case measure => simp [intOf]; omega
    · have d1 : decide ((i : Int) < (n : Int)) = false := decide_eq_false (by omega)
      obtain rfl : i = n := by omega
      clear hin
      go_wp2_with fail
      clear d1 x0 x1 x2 x3 HB2
      go_loopw [8] (fun k wr2 => ∃ j : Nat, j ≤ i ∧ k = .int .i64 (j : Int) ∧ Hid (WtL w1 E m i 0 wr2)) (fun k _ => i - (intOf k).toNat)
      case atStart => exact ⟨0, by omega, rfl, HW⟩
      case round =>
        obtain ⟨q, hq, rfl, HW2⟩ := hrel
        have HB2 : Hid (BwL wr base kb (.slice a1 i b1) (.slice a2 i b2) held (E.map EntL.lv) (E.map EntL.wv)) := HB1.out.wt HE1.out HW2.out
        obtain ⟨x0, x1, x2, x3⟩ := HB2.out.cells
        by_cases hin : q < i
        · have d1 : decide ((q : Int) < (i : Int)) = true := decide_eq_true (by omega)
          have ji : (q : Int) < (i : Int) := by omega
          have hw1 : IntKind.i64.wrap ((q : Int) + 1) = ((q + 1 : Nat) : Int) := by rw [IntKind.wrap_i64]; omega
          obtain ⟨g1, o1, c1', e1, hc1⟩ := HB2.out.lrow.some_of (by rw [List.length_map, HN.out]; omega)
          simp only [List.length_map, Value.slice.injEq] at e1
          obtain ⟨rfl, -, rfl⟩ := e1
          have y1 := HB2.out.lrow.cell q (by rw [List.length_map, HN.out]; omega)
          obtain ⟨pa, pn, pc, hgt, hform⟩ := HF.out q hin
          rw [List.getElem?_eq_getElem (by rw [List.length_map, HN.out]; omega)] at hgt
          rw [Option.some.inj hgt] at y1
          have HFm := Lib.hid hform
          clear hgt hc1
          go_upto_region 14 with fail
          go_cut [9] (fun y wx => y = .slice pa pc pc ∧ wx = wr.drew)
          case first =>
            rcases hform with ⟨rfl, rfl, rfl, -⟩ | ⟨g, rfl, _, _, hp1, hp2⟩
            · go_region_held3 (fun w' => w'.cell? ⟨kb, 0, none⟩ = some (.slice (some ⟨g1, o1, none⟩) i b1) ∧ w'.cell? ⟨g1, o1 + q, none⟩ = some (.slice none 0 0)) (go_keep) (fail)
              all_goals
                go_wp2_with fail
                go_meet
                exact ⟨rfl, rfl⟩
            · go_region_held3 (fun w' => w'.cell? ⟨kb, 0, none⟩ = some (.slice (some ⟨g1, o1, none⟩) i b1) ∧ w'.cell? ⟨g1, o1 + q, none⟩ = some (.slice (some ⟨g, 0, none⟩) pn pc)) (go_keep) (fail)
              all_goals
                go_wp2_with fail
                go_meet
                exact ⟨rfl, rfl⟩
          case rest =>
            obtain ⟨rfl, hw⟩ := hcut
            subst hw
            clear hform
            go_wp2_with fail
            go_loopw [10] (fun jv wq => ∃ jj : Nat, jj ≤ pc ∧ jv = .int .i64 (jj : Int) ∧ Hid (WtL w1 E m i 0 wq)) (fun jv _ => pc - (intOf jv).toNat)
            case atStart => exact ⟨0, by omega, rfl, HW2.out.drew⟩
            case round =>
              obtain ⟨jj, hjj, rfl, HQ⟩ := hrel
              by_cases hq2 : jj < pc
              · rcases HFm.out with ⟨_, _, h0, _⟩ | ⟨g, rfl, hi', hv, hp1, hp2⟩
                · omega
                · have d2 : decide ((jj : Int) < (pc : Int)) = true := decide_eq_true (by omega)
                  have jji : (jj : Int) < (pc : Int) := by omega
                  have hmx : pc ≤ 9223372036854775807 := by unfold maxLen at hp2; omega
                  have hw2 : IntKind.i64.wrap ((jj : Int) + 1) = ((jj + 1 : Nat) : Int) := by rw [IntKind.wrap_i64]; omega
                  have hv0 := HQ.out.done q hi' hin g pn pc hv jj hq2
                  have HMc := Lib.hid (HM.out q jj wr.drew (by omega) (by unfold maxLen; omega))
                  clear hv hi' hp2
                  go_wp2_with fail
                  refine wp_region_held_drew (S := fun W => W.rangeAt g (jj * 6) (mkL (m q jj).1 (m q jj).2).toList) (by kernel_rfl) ((World.rangeAt_drew _ _ _ _).2 hv0) (fun hHeld => ?_)
                  simp only [List.size_toArray, List.length_cons, List.length_nil]
                  refine takeH (i := 0) (d := 83) (v := .slice (some ⟨g, 0, none⟩) pc pc) rfl rfl (by kernel_rfl) (by kernel_rfl) (by kernel_rfl) (fun _ _ _ h => h) (Or.inl ⟨by kernel_rfl, by intro w hSw; go_simp⟩) (by assumption) ?_
                  refine takeH (i := 1) (d := 84) (v := .int .i64 (jj : Int)) rfl rfl (by kernel_rfl) (by kernel_rfl) (by kernel_rfl) (fun _ _ _ h => h) (Or.inl ⟨by kernel_rfl, by intro w hSw; go_simp⟩) (by assumption) ?_
                  simp only [Act.put, List.setIfInBounds_toArray, List.set_cons_succ, List.set_cons_zero]
                  refine takeH (i := 2) (d := 85) (v := .pointer (some ⟨g, jj * 6, none⟩)) rfl rfl (by kernel_rfl) (by kernel_rfl) (by kernel_rfl) (fun _ _ _ h => h) (Or.inl ⟨by kernel_rfl, by intro w hSw; go_simp⟩) (by assumption) ?_
                  simp only [Act.put, List.setIfInBounds_toArray, List.set_cons_succ, List.set_cons_zero]
                  refine takeH (i := 3) (d := 86) (v := .agg (mkL (m q jj).1 (m q jj).2)) rfl rfl (by kernel_rfl) (by kernel_rfl) (by kernel_rfl) (fun _ _ _ h => h) (yieldsIf_load_mid (by kernel_rfl) 34 (.tmp 85) rfl g (jj * 6) (by simp [Act.eval]) (mkL (m q jj).1 (m q jj).2).toList _ (fun _ h => h) Try.underlying34 rfl (by rw [info_qL]; rfl)) (by assumption) ?_
                  simp only [Act.put, List.setIfInBounds_toArray, List.set_cons_succ, List.set_cons_zero]
                  refine takeH (i := 4) (d := 87) (v := .func (.func fm) #[] #[]) rfl rfl (by kernel_rfl) (by kernel_rfl) (by kernel_rfl) (fun _ _ _ h => h) (Or.inl ⟨by kernel_rfl, by intro w hSw; go_simp⟩) (by assumption) ?_
                  refine takeH (i := 5) (d := 88) (v := .int .i64 (q : Int)) rfl rfl (by kernel_rfl) (by kernel_rfl) (by kernel_rfl) (fun _ _ _ h => h) (Or.inl ⟨by kernel_rfl, by intro w hSw; go_simp⟩) (by assumption) ?_
                  refine takeH (i := 6) (d := 89) (v := .int .i64 (jj : Int)) rfl rfl (by kernel_rfl) (by kernel_rfl) (by kernel_rfl) (fun _ _ _ h => h) (Or.inl ⟨by kernel_rfl, by intro w hSw; go_simp⟩) (by assumption) ?_
                  simp only [Act.put, List.setIfInBounds_toArray, List.set_cons_succ, List.set_cons_zero]
                  refine wpAnyH_ready (rs := [7]) (by kernel_rfl) (by simp) ?_
                  refine readyEnterL (i := 7) (d := 90) rfl rfl (by kernel_rfl) fm #[.int .i64 (q : Int), .int .i64 (jj : Int)] (by go_simp) (R := fun u w' => u = .agg (mkL (m q jj).1 (m q jj).2) ∧ Keeps (fun _ => False) wr.drew w') (HMc.out.mono (fun e w' h => ⟨_, h.1, rfl, h.2⟩)) (fun u w' h => range_ext hHeld h.2) ?_ AllReadyH.nil
                  rintro u w9 ⟨rfl, hw9⟩ hHeld9
                  have HQ9 : Hid (WtL w1 E m i 0 w9) := HQ.out.drew.ext hw9
                  clear hw9
                  simp only [Act.put, List.setIfInBounds_toArray, List.set_cons_succ, List.set_cons_zero]
                  refine takeH (i := 8) (d := 91) (v := .bool false) rfl rfl (by kernel_rfl) (by kernel_rfl) (by kernel_rfl) (fun _ _ _ h => h) (Or.inl ⟨by kernel_rfl, fun w _ => neq_execL (x := .tmp 86) (y := .tmp 90) (k := (m q jj).1) (b := (m q jj).2) rfl (by simp [Act.eval]) (by simp [Act.eval])⟩) (by assumption) ?_
                  refine wpAnyH_done (by kernel_rfl) ?_ _
                  simp only [Act.put, List.setIfInBounds_toArray, List.set_cons_succ, List.set_cons_zero]
                  clear hHeld hHeld9
                  all_goals
                    go_wp2_with fail
                    go_roundw
                    case rel => exact ⟨jj + 1, by omega, rfl, HQ9⟩
                    case measure => simp [intOf]; omega
              · have d2 : decide ((jj : Int) < (pc : Int)) = false := decide_eq_false (by omega)
                go_wp2_with fail
                go_roundw
                case rel => exact ⟨q + 1, by omega, rfl, HQ⟩
                case measure => simp [intOf]; omega
        · have d1 : decide ((q : Int) < (i : Int)) = false := decide_eq_false (by omega)
          have z0 := HB2.out.thawed 0
          have z1 := HB2.out.thawed 1
          have z2 := HB2.out.thawed 2
          go_wp2_with fail
          go_ret
          refine ⟨rfl, ?_⟩
          have k1 : Keeps (fun k => k = kb ∨ ∃ e ∈ E, e.lv.ownBlock = some k) w wr := (HK1.out.mono (fun _ _ e => .inl e)).trans HW2.out.keeps (fun _ _ e => .inr e)
          exact ((k1.trans (Keeps.setCell _ _ _ _) (fun _ _ e => .inl e)).trans (Keeps.setCell _ _ _ _) (fun _ _ e => .inl e)).trans (Keeps.setCell _ _ _ _) (fun _ _ e => .inl e)
end Go.Proofs.Ytgjamnhepbblhaa
