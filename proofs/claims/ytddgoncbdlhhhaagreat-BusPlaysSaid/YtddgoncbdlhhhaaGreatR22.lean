import Derived.Test.YtddgoncbdlhhhaaGreatR21
import Derived.Deep.MidRow
import Derived.Shelf.Abstract
import Derived.Test.YtddgoncbdlhhhaaGreatR20
import Derived.Test.YtddgoncbdlhhhaaGreatR15
import Derived.Deep.QuietTactic
import Derived.BigQuiet
import Derived.RegionTactic
import Derived.Lib.Hide
/- Books of ranges: Apart (written by parts/gen_tka.py off BkApart). Own work. -/
namespace Go.Proofs.YtddgoncbdlhhhaaGreat
open Go.RowKit Go.Shelf Go.Proofs.YtddgoncbdlhhhaaGreat.Sp
variable {pfA pfB pfC pfD pfE : Value}
/-- no two of the lists lie in one block -/
def DisG (E : List EntG) : Prop := ∀ i i' (h : i < E.length) (h' : i' < E.length), i ≠ i' → ∀ g n c g' n' c', E[i].lv = .slice (some ⟨g, 0, none⟩) n c → E[i'].lv = .slice (some ⟨g', 0, none⟩) n' c' → g ≠ g'
theorem keeps_cells (b : Nat) : ∀ (vs : List Value) (o : Nat) (w : World), Keeps (fun k => k = b) w (w.setCells b o vs)
  | [], _, w => Keeps.refl _ w
  | v :: r, o, w => (Keeps.setCell w b o v).trans (keeps_cells b r (o + 1) _) (fun _ _ h => h)
/-- a mark -/
def mkG (k a : Int) : Array Value := #[.int .u64 k, .int .u64 a]
theorem mkG_one (k a : Int) : (mkG k a).all (·.oneCell') = true := by kernel_rfl
theorem same_mk (w : World) (k a : Int) : (Op.equalIn 10000 55 (.agg (mkG k a)) (.agg (mkG k a))).run Tryz.prog w = .ok true w := by
  have u1 := Tryz.underlying3
  have a1 := Tryz.isAgg3
  have z1 := Tryz.sizeOf3
  have u := Tryz.underlying26
  have a2 := Tryz.isAgg26
  have z := Tryz.sizeOf26
  have u3 := Tryz.underlying9
  have a3 := Tryz.isAgg9
  have z3 := Tryz.sizeOf9
  have hS : Tryz.prog.underlying 55 = some (.struct (Tryz.prog.fieldsOf 55)) := by kernel_rfl
  have hp : Tryz.prog.stoodInHeld 55 = false := by kernel_rfl
  rw [mkG, show (10000 : Nat) = 9999 + 1 from rfl, run_equalIn_agg w 9999 55 _ _ hS hp]
  simp only [Program.fieldsOf, Tryz.underlying55]
  go_simp
theorem neq_mk (w : World) (k a : Int) : (binOp .neq 55 (.agg (mkG k a)) (.agg (mkG k a))).run Tryz.prog w = .ok (.bool false) w := by
  have := same_mk w k a
  rw [mkG] at *
  rw [run_neq_struct, this]
  rfl
theorem neq_exec {o : Oper} {a : Act} {w : World} {x y : Operand} {t' : TypeId} {k b : Int} (ho : o.op = .binOp .neq 55 x y t') (hx : a.eval x = .agg (mkG k b)) (hy : a.eval y = .agg (mkG k b)) : (execOp a.eval o).run Tryz.prog w = .ok (.value (.bool false)) w := by
  have hg : (eqGuard .neq 55 x y (.agg (mkG k b)) (.agg (mkG k b))).run Tryz.prog w = .ok () w := run_eqGuard_agg w _ _ _ _ _ _ guard_range
  unfold execOp
  simp only [ho, hx, hy, Sem.run_bind, Sem.run_pure, Result.andThen_ok, hg, neq_mk]
theorem info_sg : (Tryz.prog.info? 55).map (·.size) = some 2 := by kernel_rfl
/-- one of the operations that may come next: a call of a func value -/
theorem readyEnterG {P : Program} {md : Region.Mode} {ops : Array Oper} {Q : Exit → Act → World → Prop} {S : World → Prop} {i d : Nat} {o : Oper} {fuel : Nat} {listed : Array Bool} {a : Act} {w : World} {rs : List Nat} (hi : ops[i]? = some o) (hd : o.dst = some d) (hw : Region.wanted o (yielded ops a.tmps) = true)
    (f : FuncId) (args : Array Value) (hv : (execOp a.eval o).run P w = .ok (.enter f args) w) {R : Value → World → Prop}
    (hc : Calls P f args w fun e w' => ∃ v, e = .returned v ∧ R v w') (hS : ∀ v w', R v w' → S w') (hK : ∀ v w', R v w' → S w' → wpAnyH P md ops Q S fuel (listed.setIfInBounds i true) (a.put (some d) v) w') (hs : AllReadyH P md ops Q S fuel listed a w rs) : AllReadyH P md ops Q S fuel listed a w (i :: rs) := by
  rw [← hd] at hK
  refine AllReadyH.cons hi (fun K hK' => ?_) hs
  rw [if_pos hw]
  unfold Oper.wp
  rw [hv, Oper.upon_enter]
  refine hc.mono ?_
  rintro e w' ⟨v, rfl, h⟩
  exact hK'.out _ _ (hS v w' h) (hK v w' h)
/-- the lists ahead of i are written full, of the list i the places ahead of j -/
structure WtG (w : World) (E : List EntG) (m : Nat → Nat → Int × Int) (i j : Nat) (wr : World) : Prop where
  keeps : Keeps (fun k => ∃ e ∈ E, e.lv.ownBlock = some k) w wr
  there : ∀ e ∈ E, ∀ g n c, e.lv = .slice (some ⟨g, 0, none⟩) n c → wr.there g 0 (c * 2)
  done : ∀ i' (h : i' < E.length), i' < i → ∀ g n c, E[i'].lv = .slice (some ⟨g, 0, none⟩) n c → ∀ jj, jj < c → wr.rangeAt g (jj * 2) (mkG (m i' jj).1 (m i' jj).2).toList
  part : ∀ (h : i < E.length) g n c, E[i].lv = .slice (some ⟨g, 0, none⟩) n c → ∀ jj, jj < j → jj < c → wr.rangeAt g (jj * 2) (mkG (m i jj).1 (m i jj).2).toList
theorem WtG.start {w w0 : World} {base : Nat} {E : List EntG} {m : Nat → Nat → Int × Int} (he : ∀ x ∈ E, x.ok w base) (hk : Keeps (fun _ => False) w w0) : WtG w0 E m 0 0 w0 := by
  refine ⟨Keeps.refl _ _, fun e hm g n c hv => ?_, fun i' _ h => by omega, fun _ _ _ _ _ _ h => by omega⟩
  have ho := (he e hm).l.keeps hk (fun _ _ => id)
  rw [hv] at ho
  rcases ho.2 with ⟨h, _⟩ | ⟨g', cap, cur, h, hb, hg, hl, hmx, hs, ht⟩
  · simp at h
  · simp only [Value.slice.injEq, Option.some.injEq, Addr.mk.injEq, and_true] at h
    obtain ⟨rfl, -, rfl⟩ := h
    intro j hj
    refine ⟨?_, by simp [World.frozen?, hg]⟩
    rw [cell_of_row _ _ _ _ _ _ hg, Nat.zero_add, Array.getElem?_eq_getElem (by omega)]
    rfl
theorem WtG.room {w wr : World} {E : List EntG} {m : Nat → Nat → Int × Int} {i j g n c jj : Nat} (h : WtG w E m i j wr) (hi : i < E.length) (e : E[i].lv = .slice (some ⟨g, 0, none⟩) n c) (hj : jj < c) : wr.there g (jj * 2) 2 := fun q hq => by
  have := h.there E[i] (List.getElem_mem _) g n c e (jj * 2 + q) (by omega)
  rwa [Nat.zero_add] at this
theorem WtG.step {w wr : World} {E : List EntG} {m : Nat → Nat → Int × Int} {i j g n c : Nat} (h : WtG w E m i j wr) (hi : i < E.length) (e : E[i].lv = .slice (some ⟨g, 0, none⟩) n c) (hj : j < c) (hd : DisG E) : WtG w E m i (j + 1) (wr.setCells g (j * 2) (mkG (m i j).1 (m i j).2).toList) := by
  refine ⟨h.keeps.trans (keeps_cells g _ _ _) (fun k _ hk => ⟨E[i], List.getElem_mem _, by rw [e, hk]; rfl⟩), fun x hm g' n' c' hv => World.there_setCells (h.there x hm g' n' c' hv) _ _ _, fun i' h' hlt g' n' c' hv jj hjj => ?_, fun h' g' n' c' hv jj hjj hjc => ?_⟩
  · have hne : g' ≠ g := hd i' i h' hi (by omega) g' n' c' g n c hv e
    exact World.rangeAt_setCells_apart (h.done i' h' hlt g' n' c' hv jj hjj) _ _ _ (.inl hne)
  · rw [e] at hv
    simp only [Value.slice.injEq, Option.some.injEq, Addr.mk.injEq, and_true] at hv
    obtain ⟨rfl, -, rfl⟩ := hv
    by_cases hq : jj = j
    · subst hq
      exact World.rangeAt_setCells_same _ _ _ _ (h.room hi e hj)
    · exact World.rangeAt_setCells_apart (h.part h' _ _ _ e jj (by omega) hjc) _ _ _ (.inr (by
        have e1 : (mkG (m i jj).1 (m i jj).2).toList.length = 2 := rfl
        have e2 : (mkG (m i j).1 (m i j).2).toList.length = 2 := rfl
        rw [e1, e2]
        omega))
theorem WtG.drew {w wr : World} {E : List EntG} {m : Nat → Nat → Int × Int} {i j : Nat} (h : WtG w E m i j wr) : WtG w E m i j wr.drew := ⟨h.keeps.drew, fun e he g n c hv => (World.there_drew _ _ _ _).2 (h.there e he g n c hv), fun i' h' hl g n c hv jj hj => (World.rangeAt_drew _ _ _ _).2 (h.done i' h' hl g n c hv jj hj), fun h' g n c hv jj hj hc => (World.rangeAt_drew _ _ _ _).2 (h.part h' g n c hv jj hj hc)⟩
theorem cell_ext {w w' : World} (k : Keeps (fun _ => False) w w') {g i : Nat} {v : Value} (h : w.cell? ⟨g, i, none⟩ = some v) : w'.cell? ⟨g, i, none⟩ = some v := (World.cell?_of_block (a := ⟨g, i, none⟩) (k.block g (World.block_lt_of_cell? w _ h) id)).trans h
theorem range_ext {w w' : World} {g o : Nat} {cs : List Value} (h : w.rangeAt g o cs) (k : Keeps (fun _ => False) w w') : w'.rangeAt g o cs := fun j v hv => cell_ext k (h j v hv)
theorem there_ext {w w' : World} {g o n : Nat} (h : w.there g o n) (k : Keeps (fun _ => False) w w') : w'.there g o n := fun j hj => by
  obtain ⟨h1, h2⟩ := h j hj
  obtain ⟨u, hu⟩ := Option.isSome_iff_exists.1 h1
  exact ⟨by rw [cell_ext k hu]; rfl, (World.frozen?_of_block (a := ⟨g, o + j, none⟩) (k.block g (World.block_lt_of_cell? w _ hu) id)).trans h2⟩
theorem WtG.ext {w wr w9 : World} {E : List EntG} {m : Nat → Nat → Int × Int} {i j : Nat} (h : WtG w E m i j wr) (k : Keeps (fun _ => False) wr w9) : WtG w E m i j w9 :=
  ⟨h.keeps.trans k (fun _ _ e => e.elim), fun e he g n c hv => there_ext (h.there e he g n c hv) k, fun i' h' hl g n c hv jj hj => range_ext (h.done i' h' hl g n c hv jj hj) k, fun h' g n c hv jj hj hc => range_ext (h.part h' g n c hv jj hj hc) k⟩
theorem WtG.next {w wr : World} {E : List EntG} {m : Nat → Nat → Int × Int} {i j : Nat} (h : WtG w E m i j wr) (hc : ∀ (hi : i < E.length) g n c, E[i].lv = .slice (some ⟨g, 0, none⟩) n c → c ≤ j) : WtG w E m (i + 1) 0 wr := by
  refine ⟨h.keeps, h.there, fun i' h' hlt g n c hv jj hjj => ?_, fun _ _ _ _ _ _ h => by omega⟩
  by_cases hq : i' = i
  · subst hq
    exact h.part h' g n c hv jj (Nat.lt_of_lt_of_le hjj (hc h' g n c hv)) hjj
  · exact h.done i' h' (by omega) g n c hv jj hjj
/-- the book stands where its lists are written -/
theorem BwG.wt {w wr : World} {base kb : Nat} {lv wv : Value} {held : Int} {E : List EntG} {m : Nat → Nat → Int × Int} {i j : Nat} (h : BwG pfA pfB pfC pfD pfE w base kb lv wv held (E.map EntG.lv) (E.map EntG.wv)) (he : ∀ x ∈ E, x.ok w base) (k : WtG w E m i j wr) : BwG pfA pfB pfC pfD pfE wr base kb lv wv held (E.map EntG.lv) (E.map EntG.wv) := by
  have tg : ∀ q, (∃ e ∈ E, e.lv.ownBlock = some q) → ∃ cur, w.heap[q]? = some (.cells cur 55 (0, 0)) := fun q ⟨e, hm, hq⟩ => (he e hm).l.tagB q hq
  refine ⟨(k.keeps.block kb h.lt (fun hs => ?_)).trans h.blk, h.lrow.keeps k.keeps (fun q hq hs => ?_), h.wrow.keeps k.keeps (fun q hq hs => ?_), h.ne⟩
  · obtain ⟨c, hc⟩ := tg _ hs
    rw [h.blk] at hc
    simp at hc
  · obtain ⟨c, hc⟩ := tg _ hs
    obtain ⟨d, hd⟩ := h.lrow.tag q hq
    rw [hd] at hc
    simp at hc
  · obtain ⟨c, hc⟩ := tg _ hs
    obtain ⟨d, hd⟩ := h.wrow.tag q hq
    rw [hd] at hc
    simp at hc
set_option maxRecDepth 100000 in
set_option maxHeartbeats 4000000 in
theorem apartG_any {w : World} {base kb fm : Nat} {lv wv : Value} {held : Int} {E : List EntG} {m : Nat → Nat → Int × Int} (h : BwG pfA pfB pfC pfD pfE w base kb lv wv held (E.map EntG.lv) (E.map EntG.wv)) (he : ∀ x ∈ E, x.ok w base) (hlen : E.length ≤ 4000) (hd : DisG E) (hen : Enters Tryz.prog fm)
    (hm : ∀ (i j : Nat) (w : World), i ≤ 4000 → j < maxLen → Calls Tryz.prog fm #[.int .i64 (i : Int), .int .i64 (j : Int)] w fun e w' => e = .returned (.agg (mkG (m i j).1 (m i j).2)) ∧ Keeps (fun _ => False) w w') :
    Calls Tryz.prog 11 #[.pointer (some ⟨kb, 5, none⟩), .func (.func fm) #[] #[]] w fun e w' => e = .returned (.bool true) ∧ Keeps (fun k => k = kb ∨ ∃ e ∈ E, e.lv.ownBlock = some k) w w' := by
  have HSt := Lib.hid (staysG_any h he hlen)
  have HE : Hid (∀ x ∈ E, x.ok w base) := he
  have HBw := Lib.hid h
  have HD : Hid (DisG E) := hd
  have HM : Hid (∀ (i j : Nat) (w : World), i ≤ 4000 → j < maxLen → Calls Tryz.prog fm #[.int .i64 (i : Int), .int .i64 (j : Int)] w fun e w' => e = .returned (.agg (mkG (m i j).1 (m i j).2)) ∧ Keeps (fun _ => False) w w') := hm
  have he' : ∀ (args : Array Value) (w : World), (callFunc fm args).run Tryz.prog w = .ok (.enter fm args) w := hen
  clear h he hd hm
  go_enter Tryz.func11, Tryz.ntmps11
  go_wp2_with fail
  refine HSt.out.mono ?_
  rintro e w1 ⟨rfl, hb1, hk1⟩
  obtain ⟨a1, b1, rfl⟩ := hb1.lrow.form
  obtain ⟨a2, b2, rfl⟩ := hb1.wrow.form
  simp only [List.length_map] at hb1
  obtain ⟨n, hn⟩ : ∃ n, E.length = n := ⟨_, rfl⟩
  rw [hn] at hb1 hlen
  have HN : Hid (E.length = n) := hn
  have HB1 := Lib.hid hb1
  have HK1 : Hid (Keeps (fun k => k = kb) w w1) := hk1
  have HE1 : Hid (∀ x ∈ E, x.ok w1 base) := fun x hx => by
    have := HE.out x hx
    exact ⟨this.l.ke HBw.out.blk (hk1.keG (base := base)), this.w.ke HBw.out.blk (hk1.keG (base := base)), this.sm⟩
  have HF : Hid (∀ (i : Nat), i < n → ∃ pa pn pc, (E.map EntG.lv)[i]? = some (.slice pa pn pc) ∧ ((pa = none ∧ pn = 0 ∧ pc = 0 ∧ ∀ h : i < E.length, E[i].lv = .slice none 0 0) ∨ ∃ g, pa = some ⟨g, 0, none⟩ ∧ ∃ h : i < E.length, E[i].lv = .slice (some ⟨g, 0, none⟩) pn pc ∧ pn ≤ pc ∧ pc ≤ maxLen)) := fun i hi => by
    have hi' : i < E.length := by rw [HN.out]; exact hi
    rw [List.getElem?_map, List.getElem?_eq_getElem hi']
    rcases (HE1.out E[i] (List.getElem_mem _)).l.2 with ⟨e, _⟩ | ⟨g, cap, cur, e, hb, hg, h1, h2, _⟩
    · exact ⟨none, 0, 0, by rw [← e]; rfl, .inl ⟨rfl, rfl, rfl, fun _ => e⟩⟩
    · exact ⟨some ⟨g, 0, none⟩, _, cap, by rw [← e]; rfl, .inr ⟨g, rfl, hi', e, h1, h2⟩⟩
  clear hb1 hk1 hn HSt
  go_wp2_with fail
  go_loopw [5] (fun i wr => ∃ j : Nat, j ≤ n ∧ i = .int .i64 (j : Int) ∧ Hid (WtG w1 E m j 0 wr)) (fun i _ => n - (intOf i).toNat)
  case atStart => exact ⟨0, by omega, rfl, WtG.start HE1.out (Keeps.refl _ _)⟩
  case round =>
    obtain ⟨i, hi, rfl, HW⟩ := hrel
    have HB2 : Hid (BwG pfA pfB pfC pfD pfE wr base kb (.slice a1 n b1) (.slice a2 n b2) held (E.map EntG.lv) (E.map EntG.wv)) := HB1.out.wt HE1.out HW.out
    obtain ⟨x0, x1, x2, x3⟩ := HB2.out.cells
    by_cases hin : i < n
    · have d1 : decide ((i : Int) < (n : Int)) = true := decide_eq_true (by omega)
      have ji : (i : Int) < (n : Int) := by omega
      have hw1 : IntKind.i64.wrap ((i : Int) + 1) = ((i + 1 : Nat) : Int) := by rw [IntKind.wrap_i64]; omega
      obtain ⟨g1, o1, c1', e1, hc1⟩ := HB2.out.lrow.some_of (by rw [List.length_map, HN.out]; omega)
      simp only [List.length_map, Value.slice.injEq] at e1
      obtain ⟨rfl, -, rfl⟩ := e1
      have y1 := HB2.out.lrow.cell i (by rw [List.length_map, HN.out]; omega)
      obtain ⟨pa, pn, pc, hgt, hform⟩ := HF.out i hin
      rw [List.getElem?_eq_getElem (by rw [List.length_map, HN.out]; omega)] at hgt
      rw [Option.some.inj hgt] at y1
      have HFm := Lib.hid hform
      clear hgt hc1
      go_upto_region 6 with fail
      go_cut [6] (fun y wx => y = .slice pa pc pc ∧ wx = wr.drew)
      case first =>
        rcases hform with ⟨rfl, rfl, rfl, -⟩ | ⟨g, rfl, _, _, hp1, hp2⟩
        · go_region_held3 (fun w' => w'.cell? ⟨kb, 5, none⟩ = some (.slice (some ⟨g1, o1, none⟩) n b1) ∧ w'.cell? ⟨g1, o1 + i, none⟩ = some (.slice none 0 0)) (go_keep) (fail)
          all_goals
            go_wp2_with fail
            go_meet
            exact ⟨rfl, rfl⟩
        · go_region_held3 (fun w' => w'.cell? ⟨kb, 5, none⟩ = some (.slice (some ⟨g1, o1, none⟩) n b1) ∧ w'.cell? ⟨g1, o1 + i, none⟩ = some (.slice (some ⟨g, 0, none⟩) pn pc)) (go_keep) (fail)
          all_goals
            go_wp2_with fail
            go_meet
            exact ⟨rfl, rfl⟩
      case rest =>
        obtain ⟨rfl, hw⟩ := hcut
        subst hw
        clear hform
        go_wp2_with fail
        go_loopw [7] (fun jv wq => ∃ jj : Nat, jj ≤ pc ∧ jv = .int .i64 (jj : Int) ∧ Hid (WtG w1 E m i jj wq)) (fun jv _ => pc - (intOf jv).toNat)
        case atStart => exact ⟨0, by omega, rfl, HW.out.drew⟩
        case round =>
          obtain ⟨jj, hjj, rfl, HQ⟩ := hrel
          by_cases hq : jj < pc
          · rcases HFm.out with ⟨_, _, h0, _⟩ | ⟨g, rfl, hi', hv, hp1, hp2⟩
            · omega
            · have d2 : decide ((jj : Int) < (pc : Int)) = true := decide_eq_true (by omega)
              have jji : (jj : Int) < (pc : Int) := by omega
              have hmx : pc ≤ 9223372036854775807 := by unfold maxLen at hp2; omega
              have hw2 : IntKind.i64.wrap ((jj : Int) + 1) = ((jj + 1 : Nat) : Int) := by rw [IntKind.wrap_i64]; omega
              have HSt : Hid (∀ w9, Keeps (fun _ => False) wr w9 → w9.there g (jj * 2) 2 ∧ WtG w1 E m i (jj + 1) (w9.setCells g (jj * 2) (mkG (m i jj).1 (m i jj).2).toList)) := fun w9 k9 => ⟨(HQ.out.ext k9).room hi' hv hq, (HQ.out.ext k9).step hi' hv hq HD.out⟩
              have HMc := Lib.hid (HM.out i jj wr (by omega) (by unfold maxLen; omega))
              clear hv hi' hp2 HQ
              go_wp2_with fail
              refine HMc.out.mono ?_
              rintro e w9 ⟨rfl, hw9⟩
              have HRm : Hid (w9.there g (jj * 2) 2) := (HSt.out w9 hw9).1
              have HQ2 := Lib.hid (HSt.out w9 hw9).2
              clear hw9
              go_wp2_with (refine wpList_store_mid (by rfl) 55 (.tmp 51) (.tmp 50) (by rfl) g (jj * 2) (mkG (m i jj).1 (m i jj).2) (by simp [Act.eval]) (by rfl) (by exact HRm.out) (by rw [info_sg]; rfl) (mkG_one _ _) ?_)
              go_roundw
              case rel => exact ⟨jj + 1, by omega, rfl, HQ2⟩
              case measure => simp [intOf]; omega
          · have d2 : decide ((jj : Int) < (pc : Int)) = false := decide_eq_false (by omega)
            obtain rfl : jj = pc := by omega
            have HQ2 : Hid (WtG w1 E m (i + 1) 0 wr) := HQ.out.next (fun hi' g n c hv => by
              rcases HFm.out with ⟨_, _, _, hv'⟩ | ⟨g', _, _, hv', _⟩
              · rw [hv' hi'] at hv
                simp at hv
              · rw [hv'] at hv
                simp only [Value.slice.injEq] at hv
                omega)
            go_wp2_with fail
            go_roundw
            case rel => exact ⟨i + 1, by omega, rfl, HQ2⟩
            case measure => simp [intOf]; omega
    · have d1 : decide ((i : Int) < (n : Int)) = false := decide_eq_false (by omega)
      obtain rfl : i = n := by omega
      clear hin
      go_wp2_with fail
      clear d1 x0 x1 x2 x3 HB2
      go_loopw [8] (fun k wr2 => ∃ j : Nat, j ≤ i ∧ k = .int .i64 (j : Int) ∧ Hid (WtG w1 E m i 0 wr2)) (fun k _ => i - (intOf k).toNat)
      case atStart => exact ⟨0, by omega, rfl, HW⟩
      case round =>
        obtain ⟨q, hq, rfl, HW2⟩ := hrel
        have HB2 : Hid (BwG pfA pfB pfC pfD pfE wr base kb (.slice a1 i b1) (.slice a2 i b2) held (E.map EntG.lv) (E.map EntG.wv)) := HB1.out.wt HE1.out HW2.out
        obtain ⟨x0, x1, x2, x3⟩ := HB2.out.cells
        by_cases hin : q < i
        · have d1 : decide ((q : Int) < (i : Int)) = true := decide_eq_true (by omega)
          have ji : (q : Int) < (i : Int) := by omega
          have hw1 : IntKind.i64.wrap ((q : Int) + 1) = ((q + 1 : Nat) : Int) := by rw [IntKind.wrap_i64]; omega
          obtain ⟨g1, o1, c1', e1, hc1⟩ := HB2.out.lrow.some_of (by rw [List.length_map, HN.out]; omega)
          simp only [List.length_map, Value.slice.injEq] at e1
          obtain ⟨rfl, -, rfl⟩ := e1
          have y1 := HB2.out.lrow.cell q (by rw [List.length_map, HN.out]; omega)
          obtain ⟨pa, pn, pc, hgt, hform⟩ := HF.out q hin
          rw [List.getElem?_eq_getElem (by rw [List.length_map, HN.out]; omega)] at hgt
          rw [Option.some.inj hgt] at y1
          have HFm := Lib.hid hform
          clear hgt hc1
          go_upto_region 14 with fail
          go_cut [9] (fun y wx => y = .slice pa pc pc ∧ wx = wr.drew)
          case first =>
            rcases hform with ⟨rfl, rfl, rfl, -⟩ | ⟨g, rfl, _, _, hp1, hp2⟩
            · go_region_held3 (fun w' => w'.cell? ⟨kb, 5, none⟩ = some (.slice (some ⟨g1, o1, none⟩) i b1) ∧ w'.cell? ⟨g1, o1 + q, none⟩ = some (.slice none 0 0)) (go_keep) (fail)
              all_goals
                go_wp2_with fail
                go_meet
                exact ⟨rfl, rfl⟩
            · go_region_held3 (fun w' => w'.cell? ⟨kb, 5, none⟩ = some (.slice (some ⟨g1, o1, none⟩) i b1) ∧ w'.cell? ⟨g1, o1 + q, none⟩ = some (.slice (some ⟨g, 0, none⟩) pn pc)) (go_keep) (fail)
              all_goals
                go_wp2_with fail
                go_meet
                exact ⟨rfl, rfl⟩
          case rest =>
            obtain ⟨rfl, hw⟩ := hcut
            subst hw
            clear hform
            go_wp2_with fail
            go_loopw [10] (fun jv wq => ∃ jj : Nat, jj ≤ pc ∧ jv = .int .i64 (jj : Int) ∧ Hid (WtG w1 E m i 0 wq)) (fun jv _ => pc - (intOf jv).toNat)
            case atStart => exact ⟨0, by omega, rfl, HW2.out.drew⟩
            case round =>
              obtain ⟨jj, hjj, rfl, HQ⟩ := hrel
              by_cases hq2 : jj < pc
              · rcases HFm.out with ⟨_, _, h0, _⟩ | ⟨g, rfl, hi', hv, hp1, hp2⟩
                · omega
                · have d2 : decide ((jj : Int) < (pc : Int)) = true := decide_eq_true (by omega)
                  have jji : (jj : Int) < (pc : Int) := by omega
                  have hmx : pc ≤ 9223372036854775807 := by unfold maxLen at hp2; omega
                  have hw2 : IntKind.i64.wrap ((jj : Int) + 1) = ((jj + 1 : Nat) : Int) := by rw [IntKind.wrap_i64]; omega
                  have hv0 := HQ.out.done q hi' hin g pn pc hv jj hq2
                  have HMc := Lib.hid (HM.out q jj wr.drew (by omega) (by unfold maxLen; omega))
                  clear hv hi' hp2
                  go_wp2_with fail
                  refine wp_region_held_drew (S := fun W => W.rangeAt g (jj * 2) (mkG (m q jj).1 (m q jj).2).toList) (by kernel_rfl) ((World.rangeAt_drew _ _ _ _).2 hv0) (fun hHeld => ?_)
                  simp only [List.size_toArray, List.length_cons, List.length_nil]
                  refine takeH (i := 0) (d := 83) (v := .slice (some ⟨g, 0, none⟩) pc pc) rfl rfl (by kernel_rfl) (by kernel_rfl) (by kernel_rfl) (fun _ _ _ h => h) (Or.inl ⟨by kernel_rfl, by intro w hSw; go_simp⟩) (by assumption) ?_
                  refine takeH (i := 1) (d := 84) (v := .int .i64 (jj : Int)) rfl rfl (by kernel_rfl) (by kernel_rfl) (by kernel_rfl) (fun _ _ _ h => h) (Or.inl ⟨by kernel_rfl, by intro w hSw; go_simp⟩) (by assumption) ?_
                  simp only [Act.put, List.setIfInBounds_toArray, List.set_cons_succ, List.set_cons_zero]
                  refine takeH (i := 2) (d := 85) (v := .pointer (some ⟨g, jj * 2, none⟩)) rfl rfl (by kernel_rfl) (by kernel_rfl) (by kernel_rfl) (fun _ _ _ h => h) (Or.inl ⟨by kernel_rfl, by intro w hSw; go_simp⟩) (by assumption) ?_
                  simp only [Act.put, List.setIfInBounds_toArray, List.set_cons_succ, List.set_cons_zero]
                  refine takeH (i := 3) (d := 86) (v := .agg (mkG (m q jj).1 (m q jj).2)) rfl rfl (by kernel_rfl) (by kernel_rfl) (by kernel_rfl) (fun _ _ _ h => h) (yieldsIf_load_mid (by kernel_rfl) 55 (.tmp 85) rfl g (jj * 2) (by simp [Act.eval]) (mkG (m q jj).1 (m q jj).2).toList _ (fun _ h => h) Tryz.underlying55 rfl (by rw [info_sg]; rfl)) (by assumption) ?_
                  simp only [Act.put, List.setIfInBounds_toArray, List.set_cons_succ, List.set_cons_zero]
                  refine takeH (i := 4) (d := 87) (v := .func (.func fm) #[] #[]) rfl rfl (by kernel_rfl) (by kernel_rfl) (by kernel_rfl) (fun _ _ _ h => h) (Or.inl ⟨by kernel_rfl, by intro w hSw; go_simp⟩) (by assumption) ?_
                  refine takeH (i := 5) (d := 88) (v := .int .i64 (q : Int)) rfl rfl (by kernel_rfl) (by kernel_rfl) (by kernel_rfl) (fun _ _ _ h => h) (Or.inl ⟨by kernel_rfl, by intro w hSw; go_simp⟩) (by assumption) ?_
                  refine takeH (i := 6) (d := 89) (v := .int .i64 (jj : Int)) rfl rfl (by kernel_rfl) (by kernel_rfl) (by kernel_rfl) (fun _ _ _ h => h) (Or.inl ⟨by kernel_rfl, by intro w hSw; go_simp⟩) (by assumption) ?_
                  simp only [Act.put, List.setIfInBounds_toArray, List.set_cons_succ, List.set_cons_zero]
                  refine wpAnyH_ready (rs := [7]) (by kernel_rfl) (by simp) ?_
                  refine readyEnterG (i := 7) (d := 90) rfl rfl (by kernel_rfl) fm #[.int .i64 (q : Int), .int .i64 (jj : Int)] (by go_simp) (R := fun u w' => u = .agg (mkG (m q jj).1 (m q jj).2) ∧ Keeps (fun _ => False) wr.drew w') (HMc.out.mono (fun e w' h => ⟨_, h.1, rfl, h.2⟩)) (fun u w' h => range_ext hHeld h.2) ?_ AllReadyH.nil
                  rintro u w9 ⟨rfl, hw9⟩ hHeld9
                  have HQ9 : Hid (WtG w1 E m i 0 w9) := HQ.out.drew.ext hw9
                  clear hw9
                  simp only [Act.put, List.setIfInBounds_toArray, List.set_cons_succ, List.set_cons_zero]
                  refine takeH (i := 8) (d := 91) (v := .bool false) rfl rfl (by kernel_rfl) (by kernel_rfl) (by kernel_rfl) (fun _ _ _ h => h) (Or.inl ⟨by kernel_rfl, fun w _ => neq_exec (x := .tmp 86) (y := .tmp 90) (k := (m q jj).1) (b := (m q jj).2) rfl (by simp [Act.eval]) (by simp [Act.eval])⟩) (by assumption) ?_
                  refine wpAnyH_done (by kernel_rfl) ?_ _
                  simp only [Act.put, List.setIfInBounds_toArray, List.set_cons_succ, List.set_cons_zero]
                  clear hHeld hHeld9
                  all_goals
                    go_wp2_with fail
                    go_roundw
                    case rel => exact ⟨jj + 1, by omega, rfl, HQ9⟩
                    case measure => simp [intOf]; omega
              · have d2 : decide ((jj : Int) < (pc : Int)) = false := decide_eq_false (by omega)
                go_wp2_with fail
                go_roundw
                case rel => exact ⟨q + 1, by omega, rfl, HQ⟩
                case measure => simp [intOf]; omega
        · have d1 : decide ((q : Int) < (i : Int)) = false := decide_eq_false (by omega)
          have z0 := HB2.out.thawed 5
          have z1 := HB2.out.thawed 6
          have z2 := HB2.out.thawed 7
          go_wp2_with fail
          go_ret
          refine ⟨rfl, ?_⟩
          have k1 : Keeps (fun k => k = kb ∨ ∃ e ∈ E, e.lv.ownBlock = some k) w wr := (HK1.out.mono (fun _ _ e => .inl e)).trans HW2.out.keeps (fun _ _ e => .inr e)
          exact ((k1.trans (Keeps.setCell _ _ _ _) (fun _ _ e => .inl e)).trans (Keeps.setCell _ _ _ _) (fun _ _ e => .inl e)).trans (Keeps.setCell _ _ _ _) (fun _ _ e => .inl e)
end Go.Proofs.YtddgoncbdlhhhaaGreat
/- The marks of ranges; a book of ranges, as a law sees it (written by parts/gen_tkm.py off BkMark). Own work. -/
namespace Go.Proofs.YtddgoncbdlhhhaaGreat
open Go.RowKit Go.Shelf Go.Proofs.YtddgoncbdlhhhaaGreat.Sp
variable {pfA pfB pfC pfD pfE : Value}
set_option linter.unusedVariables false
/-- the mark of the place j of the list i -/
def markG (i j : Nat) : Int × Int := ((i : Int) + 7, 3)
set_option maxRecDepth 100000 in
set_option maxHeartbeats 4000000 in
theorem rangeMark_any (i j : Nat) (w : World) (_hi : i ≤ 4000) (_hj : j < maxLen) :
    Calls Tryz.prog 12 #[.int .i64 (i : Int), .int .i64 (j : Int)] w fun e w' => e = .returned (.agg (mkG (markG i j).1 (markG i j).2)) ∧ Keeps (fun _ => False) w w' := by
  have hw1 : IntKind.u64.wrap ((i : Int) + 7) = (i : Int) + 7 := by rw [IntKind.wrap_u64]; omega
  have hw2 : IntKind.u64.wrap (i : Int) = (i : Int) := by rw [IntKind.wrap_u64]; omega
  go_enter Tryz.func12, Tryz.ntmps12
  go_wp2_with fail
  refine bodyPost_ret (v := .agg (mkG (markG i j).1 (markG i j).2)) ?_ rfl ⟨rfl, Keeps.alloc w _⟩
  have hb : (w.alloc (.cells (mkG ((i : Int) + 7) 3) 55)).heap[w.heap.size]? = some (.cells (mkG ((i : Int) + 7) 3) 55 (0, 0)) := Array.getElem?_push_size
  have d0 := cell_of_row _ _ 0 _ _ _ hb
  have d1 := cell_of_row _ _ 1 _ _ _ hb
  simp only [mkG, List.getElem?_toArray, List.getElem?_cons_zero, List.getElem?_cons_succ] at d0 d1
  simp [results, Tryz.results12, go_sem, markG, mkG, d0, d1]
theorem mem_blksG {E : List EntG} {k : Nat} : k ∈ blksG E ↔ ∃ x ∈ E, x.lv.ownBlock = some k ∨ x.wv.ownBlock = some k := by
  simp [blksG, EntG.bl, List.mem_flatMap, Option.mem_toList]
theorem BkG.bw {w : World} {base kb : Nat} {lv wv : Value} {held : Int} {E : List EntG} (h : BkG pfA pfB pfC pfD pfE w base kb lv wv held E) : BwG pfA pfB pfC pfD pfE w base kb lv wv held (E.map EntG.lv) (E.map EntG.wv) := ⟨h.blk, h.lrow, h.wrow, h.ne⟩
theorem blksG_lt {w : World} {base : Nat} {E : List EntG} (he : ∀ x ∈ E, x.ok w base) : ∀ k ∈ blksG E, k < w.heap.size := fun k hk => by
  obtain ⟨x, hx, h | h⟩ := mem_blksG.1 hk
  · exact ((he x hx).l.lt k h).2
  · exact ((he x hx).w.lt k h).2
theorem bkG_new {w : World} {base kb : Nat} (h : w.heap[kb]? = some (.cells #[pfA, pfB, pfC, pfD, pfE, .slice none 0 0, .slice none 0 0, .int .i64 0, .bool false] 48 (0, 0))) : BkG pfA pfB pfC pfD pfE w base kb (.slice none 0 0) (.slice none 0 0) 0 [] :=
  ⟨h, RowV.nil _ _ _, RowV.nil _ _ _, fun _ e => (by cases e), fun _ h => (by cases h), List.nodup_nil⟩
theorem blksG_append (E F : List EntG) : blksG (E ++ F) = blksG E ++ blksG F := by simp [blksG]
theorem bkG_keep {w : World} {base kb : Nat} {lv wv : Value} {held : Int} {E : List EntG} {la : Option Addr} {ln lc : Nat} {xs : List Sp} (h : BkG pfA pfB pfC pfD pfE w base kb lv wv held E) (hl : OwnRg w base (.slice la ln lc) xs) (hxs : SmG xs) (hsm : SmG xs) (hlen : E.length ≤ 4000) (hbase : base ≤ w.heap.size) (hf : ∀ k, (Value.slice la ln lc).ownBlock = some k → k ∉ blksG E) :
    Calls Tryz.prog 66 #[.pointer (some ⟨kb, 5, none⟩), .slice la ln lc] w fun e w' => e = .returned (.tuple #[]) ∧ ∃ lv' wv' held' E', BkG pfA pfB pfC pfD pfE w' base kb lv' wv' held' E' ∧ E'.length ≤ 4000 ∧ (∀ k ∈ blksG E', k ∈ blksG E ∨ (Value.slice la ln lc).ownBlock = some k ∨ w.heap.size ≤ k) ∧ KeG base kb w w' := by
  refine (keepG_any h.bw h.ents hl hxs hsm hlen hbase).mono ?_
  rintro e w' ⟨rfl, cv, hcv, E', hk, hl'⟩
  obtain ⟨lv', wv', held', hb⟩ := hk.bw
  have hsub : (blksG E').Sublist (blksG (E ++ [⟨.slice la ln lc, cv, xs⟩])) := by
    obtain ⟨t, ht⟩ := hk.suf
    rw [← ht, blksG_append]
    exact List.sublist_append_right _ _
  have hbl : blksG (E ++ [⟨.slice la ln lc, cv, xs⟩]) = blksG E ++ ((Value.slice la ln lc).ownBlock.toList ++ cv.ownBlock.toList) := by rw [blksG_append]; simp [blksG, EntG.bl]
  have hlt := blksG_lt h.ents
  have hnd : (blksG (E ++ [⟨.slice la ln lc, cv, xs⟩])).Nodup := by
    rw [hbl]
    refine List.nodup_append.2 ⟨h.nodup, List.nodup_append.2 ⟨?_, ?_, fun a ha b hb e => ?_⟩, fun a ha b hb e => ?_⟩
    · cases (Value.slice la ln lc).ownBlock <;> simp
    · cases cv.ownBlock <;> simp
    · subst e
      have h1 := (hl.lt a (by simpa using ha)).2
      have h2 := hcv a (by simpa using hb)
      omega
    · subst e
      rcases List.mem_append.1 hb with hb | hb
      · exact hf a (by simpa using hb) ha
      · have h1 := hlt a ha
        have h2 := hcv a (by simpa using hb)
        omega
  refine ⟨rfl, lv', wv', held', E', ⟨hb.blk, hb.lrow, hb.wrow, hb.ne, hk.ents, hnd.sublist hsub⟩, hl', fun k hk' => ?_, hk.ke⟩
  have := hsub.subset hk'
  rw [hbl] at this
  rcases List.mem_append.1 this with h1 | h1
  · exact .inl h1
  · rcases List.mem_append.1 h1 with h1 | h1
    · exact .inr (.inl (by simpa using h1))
    · exact .inr (.inr (hcv k (by simpa using h1)))
theorem disG_of {E : List EntG} (h : (blksG E).Nodup) : DisG E := by
  intro i i' hi hi' hne g n c g' n' c' e e' hg
  subst hg
  have key : ∀ (E : List EntG), (blksG E).Nodup → ∀ i i' (hi : i < E.length) (hi' : i' < E.length), i < i' → E[i].lv.ownBlock = some g → E[i'].lv.ownBlock = some g → False := by
    intro E
    induction E with
    | nil => intro _ i _ hi; simp at hi
    | cons x xs ih =>
      intro hnd i i' hi hi' hlt h1 h2
      have hc : blksG (x :: xs) = x.bl ++ blksG xs := by simp [blksG]
      rw [hc] at hnd
      obtain ⟨_, n2, n3⟩ := List.nodup_append.1 hnd
      cases i' with
      | zero => omega
      | succ k' =>
        have hk' : k' < xs.length := by simpa using hi'
        simp only [List.getElem_cons_succ] at h2
        cases i with
        | zero =>
          simp only [List.getElem_cons_zero] at h1
          refine n3 g ?_ g ?_ rfl
          · simp [EntG.bl, h1]
          · exact mem_blksG.2 ⟨xs[k'], List.getElem_mem _, .inl h2⟩
        | succ k =>
          simp only [List.getElem_cons_succ] at h1
          exact ih n2 k k' (by simpa using hi) (by simpa using hi') (by omega) h1 h2
  have b1 : E[i].lv.ownBlock = some g := by rw [e]; rfl
  have b2 : E[i'].lv.ownBlock = some g := by rw [e']; rfl
  rcases Nat.lt_or_gt_of_ne hne with hlt | hlt
  · exact key E h i i' hi hi' hlt b1 b2
  · exact key E h i' i hi' hi hlt b2 b1
theorem bkG_apart {w : World} {base kb : Nat} {lv wv : Value} {held : Int} {E : List EntG} (h : BkG pfA pfB pfC pfD pfE w base kb lv wv held E) (hlen : E.length ≤ 4000) :
    Calls Tryz.prog 11 #[.pointer (some ⟨kb, 5, none⟩), .func (.func 12) #[] #[]] w fun e w' => e = .returned (.bool true) ∧ Keeps (fun k => k = kb ∨ ∃ e ∈ E, e.lv.ownBlock = some k) w w' :=
  apartG_any h.bw h.ents hlen (disG_of h.nodup) (enters_of Tryz.func12 (by kernel_rfl) rfl) (fun i j w hi hj => rangeMark_any i j w hi hj)
end Go.Proofs.YtddgoncbdlhhhaaGreat
/- The document's own machine (bulkheadref3): Where, Off. Own work. -/
namespace Go.Proofs.YtddgoncbdlhhhaaGreat
open Go.RowKit Go.Maps Go.Proofs.YtddgoncbdlhhhaaGreat.Sp
/-- a machine of the document's own in its block -/
def RBox (w : World) (m : Nat) (vr vd vp : Value) (L S X : Nat) : Prop := w.heap[m]? = some (.cells #[vr, vd, vp, .int .i64 (L : Int), .int .i64 (S : Int), .int .i64 (X : Int)] 68 (0, 0))
theorem RBox.cells {w : World} {m : Nat} {vr vd vp : Value} {L S X : Nat} (h : RBox w m vr vd vp L S X) : w.cell? ⟨m, 0, none⟩ = some vr ∧ w.cell? ⟨m, 1, none⟩ = some vd ∧ w.cell? ⟨m, 2, none⟩ = some vp ∧ w.cell? ⟨m, 3, none⟩ = some (.int .i64 (L : Int)) ∧ w.cell? ⟨m, 4, none⟩ = some (.int .i64 (S : Int)) ∧ w.cell? ⟨m, 5, none⟩ = some (.int .i64 (X : Int)) := by
  refine ⟨?_, ?_, ?_, ?_, ?_, ?_⟩ <;> rw [cell_of_row w m _ _ _ _ h] <;> rfl
theorem RBox.thawed {w : World} {m : Nat} {vr vd vp : Value} {L S X : Nat} (h : RBox w m vr vd vp L S X) (i : Nat) : w.frozen? ⟨m, i, none⟩ = false := by simp [World.frozen?, show w.heap[m]? = _ from h]
theorem RBox.lt {w : World} {m : Nat} {vr vd vp : Value} {L S X : Nat} (h : RBox w m vr vd vp L S X) : m < w.heap.size := (Array.getElem?_eq_some_iff.1 h).1
theorem RBox.below {w w' : World} {m : Nat} {vr vd vp : Value} {L S X : Nat} (h : RBox w m vr vd vp L S X) (hb : Below w.heap.size w w') : RBox w' m vr vd vp L S X := (hb.block m h.lt).trans h
theorem RBox.keeps {Z : Nat → Prop} {w w' : World} {m : Nat} {vr vd vp : Value} {L S X : Nat} (h : RBox w m vr vd vp L S X) (hk : Keeps Z w w') (hn : ¬ Z m) : RBox w' m vr vd vp L S X := (hk.block m h.lt hn).trans h
/-- is the address in the range? -/
abbrev inR (a : Int) (x : Sp) : Prop := x.1 ≤ a ∧ a < x.1 + x.2
theorem OffR.unique {rs : List Sp} {a n : Nat} {x y : Int} {b c : Bool} (h : OffR rs a n x b) (k : OffR rs a n y c) : x = y ∧ b = c := by
  cases b <;> cases c
  · exact ⟨(h.2 rfl).1.trans (k.2 rfl).1.symm, rfl⟩
  · obtain ⟨i, hi, _, _, hn, _⟩ := k.1 rfl
    exact absurd ((h.2 rfl).2 i hi) hn
  · obtain ⟨i, hi, _, _, hn, _⟩ := h.1 rfl
    exact absurd ((k.2 rfl).2 i hi) hn
  · obtain ⟨i, hi, e1, _, hn, ha⟩ := h.1 rfl
    obtain ⟨j, hj, e2, _, hm, hb⟩ := k.1 rfl
    refine ⟨?_, rfl⟩
    rcases Nat.lt_trichotomy i j with h1 | h1 | h1
    · exact absurd (hb i h1) hn
    · rw [e1, e2, h1]
    · exact absurd (ha j h1) hm
/-- how Off's inner loop stands: how many bytes of one ground there are from an address on -/
def StepR (L : List Sp) (a : Int) (k : Nat) (step : Int) : Prop :=
  (step = 0 ∧ ∀ x ∈ L.take k, ¬ inR a x) ∨ (0 < step ∧ step ≤ 4294967296 ∧ a ≤ 4294967296 ∧ ∃ x ∈ L, x.1 ≤ a ∧ a + step = x.1 + x.2)
theorem StepR.on {L : List Sp} {a step : Int} {k : Nat} (h : StepR L a k step) (h0 : step ≠ 0) (j : Int) (h1 : 0 ≤ j) (h2 : j < step) : On L (a + j) := by
  rcases h with ⟨h, _⟩ | ⟨_, _, _, x, hx, h3, h4⟩
  · exact absurd h h0
  · exact ⟨x, hx, by omega, by omega⟩
/-- what Off answers -/
def OffE (LL : List Sp) (a n : Nat) (e : Ending) : Prop := ∃ x b, e = .returned (.tuple #[.int .u64 x, .bool b]) ∧ OffR LL a n x b
set_option maxRecDepth 100000 in
set_option maxHeartbeats 8000000 in
theorem roff_any {w : World} {m : Nat} {vr vd vp : Value} {rs ds : List Sp} {L S X a n : Nat} (h : RBox w m vr vd vp L S X) (hr : U64.SV w vr rs) (hd : U64.SV w vd ds) (hs : Sane (rs ++ ds)) (hl : rs.length + ds.length ≤ 64) (ha : a ≤ 18446744073709551615) (hn : n ≤ 9223372036854775807) :
    Calls Tryz.prog 86 #[.pointer (some ⟨m, 0, none⟩), .int .u64 (a : Int), .int .i64 (n : Int)] w fun e w' => OffE (rs ++ ds) a n e ∧ Below w.heap.size w w' := by
  have HAl : Hid (Calls Tryz.prog 44 #[.agg #[vr, vd]] w fun e w' => ∃ a n c, e = .returned (.slice a n c) ∧ Hid (Below w.heap.size w w') ∧ Hid (U64.SV w' (.slice a n c) (rs ++ ds)) ∧ Hid (∀ j, (Value.slice a n c).ownBlock = some j → w.heap.size ≤ j)) := all_any hr hd (by omega)
  have HS : Hid (Sane (rs ++ ds)) := hs
  obtain ⟨c0, c1, _, _, _, _⟩ := h.cells
  have hl2 : (rs ++ ds).length ≤ 64 := by rw [List.length_append]; exact hl
  generalize rs ++ ds = LL at *
  clear h hr hd hs hl
  go_enter Tryz.func86, Tryz.ntmps86
  go_wp2_with fail
  refine HAl.out.mono ?_
  rintro e w1 ⟨al, nl, cl, rfl, HB1, HS1, _⟩
  obtain ⟨al', cl', ev, hcl, hml, _⟩ := id HS1.out
  simp only [Value.slice.injEq] at ev
  obtain ⟨rfl, hnl, rfl⟩ := ev
  have HN : Hid (nl = LL.length) := hnl
  have hn40 : nl ≤ 64 := by rw [hnl]; exact hl2
  have hcl' : nl ≤ cl := by rw [hnl]; exact hcl
  unfold maxLen at hml
  clear hnl hcl HAl c0 c1 hl2
  go_wp2_with fail
  go_loopw [1, 2] (fun av nv wr => ∃ i q : Nat, ∃ ai ni : Int, i + q = n ∧ ai = (a : Int) + i ∧ ni = (q : Int) ∧ av = .int .u64 ai ∧ nv = .int .i64 ni ∧ 0 ≤ ai ∧ ai ≤ 18446744073709551615 ∧ Hid (∀ j : Nat, j < i → On LL ((a : Int) + j)) ∧ Hid (Below w1.heap.size w1 wr)) (fun _ nv _ => (intOf nv).toNat)
  case atStart => exact ⟨0, n, a, n, by omega, by omega, rfl, rfl, rfl, by omega, by omega, fun j hj => absurd hj (Nat.not_lt_zero _), Below.refl _ _⟩
  case round =>
    obtain ⟨i, q, ai, ni, hiq, hai, hni, rfl, rfl, ha0, ha1, HO, HB⟩ := hrel
    obtain ⟨wA, hwA⟩ : ∃ wA, wA = wr := ⟨_, rfl⟩
    subst hwA
    have HBe : Hid (Below w.heap.size w wA) := HB1.out.trans (HB.out.mono HB1.out.size)
    have HAi : Hid (ai = (a : Int) + i) := hai
    have HNi : Hid (ni = (q : Int)) := hni
    have hn0 : 0 ≤ ni := by omega
    have hn1 : ni ≤ 9223372036854775807 := by omega
    clear hai hni
    by_cases hq : 0 < ni
    · go_wp2_with fail
      go_loopw [10, 9] (fun kv sv wi => ∃ k : Nat, ∃ step : Int, k ≤ nl ∧ kv = .int .i64 (k : Int) ∧ sv = .int .u64 step ∧ 0 ≤ step ∧ step ≤ 4294967296 ∧ Hid (StepR LL ai k step) ∧ Hid (Below wA.heap.size wA wi)) (fun kv _ _ => nl - (intOf kv).toNat)
      case atStart => exact ⟨0, 0, Nat.zero_le _, rfl, rfl, by omega, by omega, .inl ⟨rfl, fun x hx => by simp at hx⟩, Below.refl _ _⟩
      case round =>
        obtain ⟨k, step, hk, rfl, rfl, st0, st1, HSt, HBi⟩ := hrel
        by_cases hlt : k < nl
        · have hkL : k < LL.length := by rw [← HN.out]; exact hlt
          have hsan := HS.out LL[k] (List.getElem_mem _)
          have HTk : Hid (LL.take (k + 1) = LL.take k ++ [LL[k]]) := List.take_succ_eq_append_getElem hkL
          have HMem : Hid (LL[k] ∈ LL) := List.getElem_mem _
          obtain ⟨_, _, e, _, _, _, _, h5⟩ := (HS1.out.below HB.out (Nat.le_refl _)).below HBi.out (Nat.le_refl _)
          simp only [Value.slice.injEq] at e
          obtain ⟨rfl, hzz, rfl⟩ := e
          clear hzz
          obtain ⟨g, off, rfl, d0, d1⟩ := h5 k hkL
          clear h5
          generalize LL[k] = xx at *
          obtain ⟨b, s⟩ := xx
          simp only at d0 d1 hsan
          obtain ⟨b0, b1, b2⟩ := hsan
          have jk : (k : Int) < (nl : Int) := by omega
          have HBn : Hid (Below wA.heap.size wA wr.drew) := HBi.out.drew
          by_cases q1 : b ≤ ai
          · have q1d : decide (b ≤ ai) = true := decide_eq_true q1
            by_cases q2 : ai - b < s
            · have q2d : decide (ai - b < s) = true := decide_eq_true q2
              have HSn : Hid (StepR LL ai (k + 1) (s - (ai - b))) := .inr ⟨by omega, by omega, by omega, (b, s), HMem.out, q1, by show ai + (s - (ai - b)) = b + s; omega⟩
              have u0 : 0 ≤ s - (ai - b) := by omega
              have u1 : s - (ai - b) ≤ 4294967296 := by omega
              clear HSt HTk HMem
              go_wp2_with fail
              go_quiet (fail)
              go_wp2_with fail
              go_quiet (fail)
              go_wp2_with fail
              go_roundw
              case rel => exact ⟨k + 1, s - (ai - b), by omega, by go_num, rfl, u0, u1, HSn, by first | exact U64.below_drewN' HBi.out _ | exact U64.below_drewN' (U64.below_drewN' HBi.out _) _⟩
              case measure => simp [intOf]; omega
            · have q2d : decide (ai - b < s) = false := decide_eq_false q2
              have HSn : Hid (StepR LL ai (k + 1) step) := HSt.out.imp (fun ⟨h1, h2⟩ => ⟨h1, fun x hx => by
                rw [HTk.out] at hx
                rcases List.mem_append.1 hx with hx | hx
                · exact h2 x hx
                · rw [List.mem_singleton.1 hx]; unfold inR; simp only; omega⟩) id
              clear HSt HTk HMem
              go_wp2_with fail
              go_quiet (fail)
              go_wp2_with fail
              go_roundw
              case rel => exact ⟨k + 1, step, by omega, by go_num, rfl, st0, st1, HSn, by first | exact U64.below_drewN' HBi.out _ | exact U64.below_drewN' (U64.below_drewN' HBi.out _) _⟩
              case measure => simp [intOf]; omega
          · have q1d : decide (b ≤ ai) = false := decide_eq_false q1
            have HSn : Hid (StepR LL ai (k + 1) step) := HSt.out.imp (fun ⟨h1, h2⟩ => ⟨h1, fun x hx => by
                rw [HTk.out] at hx
                rcases List.mem_append.1 hx with hx | hx
                · exact h2 x hx
                · rw [List.mem_singleton.1 hx]; unfold inR; simp only; omega⟩) id
            clear HSt HTk HMem
            go_wp2_with fail
            go_quiet (fail)
            go_wp2_with fail
            go_roundw
            case rel => exact ⟨k + 1, step, by omega, by go_num, rfl, st0, st1, HSn, by first | exact U64.below_drewN' HBi.out _ | exact U64.below_drewN' (U64.below_drewN' HBi.out _) _⟩
            case measure => simp [intOf]; omega
        · obtain rfl : k = nl := by omega
          have HBf : Hid (Below w.heap.size w wr) := HBe.out.trans (HBi.out.mono HBe.out.size)
          have HBg : Hid (Below w1.heap.size w1 wr) := HB.out.trans (HBi.out.mono HB.out.size)
          by_cases s0 : step = 0
          · have HR : Hid (OffR LL a n ai true) := by
              refine ⟨fun _ => ⟨i, by have := HNi.out; omega, HAi.out, by have := HAi.out; omega, ?_, HO.out⟩, fun h => by cases h⟩
              rintro ⟨x, hx, h1, h2⟩
              rcases HSt.out with ⟨_, h3⟩ | ⟨h3, _⟩
              · refine h3 x (by rw [HN.out, List.take_length]; exact hx) ⟨?_, ?_⟩
                · have := HAi.out; omega
                · have := HAi.out; omega
              · omega
            subst s0
            clear HSt
            go_wp2_with fail
            go_ret2
            exact ⟨⟨ai, true, rfl, HR.out⟩, HBf.out⟩
          · have HOn := Lib.hid (HSt.out.on s0)
            have HAl : Hid (ai ≤ 4294967296) := by
              rcases HSt.out with ⟨h3, _⟩ | ⟨_, _, h3, _⟩
              · exact absurd h3 s0
              · exact h3
            by_cases hle : ni ≤ step
            · have HR : Hid (OffR LL a n 0 false) := by
                refine ⟨fun h => (by cases h), fun _ => ⟨rfl, fun j hj => ?_⟩⟩
                by_cases hji : j < i
                · exact HO.out j hji
                · have := HOn.out ((j : Int) - i) (by omega) (by have := HNi.out; omega)
                  rw [HAi.out] at this
                  rw [show (a : Int) + j = (a : Int) + i + ((j : Int) - i) by omega]
                  exact this
              clear HSt HAl
              go_wp2_with fail
              go_ret2
              exact ⟨⟨0, false, rfl, HR.out⟩, HBf.out⟩
            · have hal := HAl.out
              have HR : Hid (∀ j : Nat, j < i + step.toNat → On LL ((a : Int) + j)) := fun j hj => by
                by_cases hji : j < i
                · exact HO.out j hji
                · have := HOn.out ((j : Int) - i) (by omega) (by omega)
                  rw [HAi.out] at this
                  rw [show (a : Int) + j = (a : Int) + i + ((j : Int) - i) by omega]
                  exact this
              clear HSt HAl HOn
              go_wp2_with fail
              go_roundw
              case rel => exact ⟨i + step.toNat, q - step.toNat, ai + step, ni - step, by have := HNi.out; omega, by have := HAi.out; omega, by have := HNi.out; omega, rfl, rfl, by omega, by omega, HR, HBg⟩
              case measure => simp [intOf]; omega
    · have HR : Hid (OffR LL a n 0 false) := ⟨fun h => (by cases h), fun _ => ⟨rfl, fun j hj => HO.out j (by have := HNi.out; omega)⟩⟩
      go_wp2_with fail
      go_ret2
      exact ⟨⟨0, false, rfl, HR.out⟩, HBe.out⟩
end Go.Proofs.YtddgoncbdlhhhaaGreat
