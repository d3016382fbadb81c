import Derived.Test.YtddgoncbdlhhhaaGreatR08
import Derived.Deep.MidRow
import Derived.Shelf.Abstract
import Derived.Test.YtddgoncbdlhhhaaGreatR02
import Derived.Test.YtddgoncbdlhhhaaGreatR01
import Derived.Maps.RangeWalk
import Derived.Deep.WholeRow
/- Book[byte].Apart. Own work. -/
namespace Go.Proofs.YtddgoncbdlhhhaaGreat
open Go.RowKit Go.Shelf
variable {pfA pfB pfC pfD pfE : Value}
/-- no two of the lists lie in one block -/
def Dis (E : List Ent) : Prop := ∀ i i' (h : i < E.length) (h' : i' < E.length), i ≠ i' → ∀ g n c g' n' c', E[i].lv = .slice (some ⟨g, 0, none⟩) n c → E[i'].lv = .slice (some ⟨g', 0, none⟩) n' c' → g ≠ g'
/-- the lists ahead of i are written full, of the list i the places ahead of j -/
structure Wt (w : World) (E : List Ent) (m : Nat → Nat → Int) (i j : Nat) (wr : World) : Prop where
  keeps : Keeps (fun k => ∃ e ∈ E, e.lv.ownBlock = some k) w wr
  there : ∀ e ∈ E, ∀ g n c, e.lv = .slice (some ⟨g, 0, none⟩) n c → wr.there g 0 c
  done : ∀ i' (h : i' < E.length), i' < i → ∀ g n c, E[i'].lv = .slice (some ⟨g, 0, none⟩) n c → ∀ jj, jj < c → wr.cell? ⟨g, jj, none⟩ = some (.int .u8 (m i' jj))
  part : ∀ (h : i < E.length) g n c, E[i].lv = .slice (some ⟨g, 0, none⟩) n c → ∀ jj, jj < j → jj < c → wr.cell? ⟨g, jj, none⟩ = some (.int .u8 (m i jj))
theorem Wt.start {w w0 : World} {base : Nat} {E : List Ent} {m : Nat → Nat → Int} (he : ∀ x ∈ E, x.ok w base) (hk : Keeps (fun _ => False) w w0) : Wt w0 E m 0 0 w0 := by
  refine ⟨Keeps.refl _ _, fun e hm g n c hv => ?_, fun i' _ h => by omega, fun _ _ _ _ _ _ h => by omega⟩
  have ho := (he e hm).l.keeps hk (fun _ _ => id)
  rw [hv] at ho
  rcases ho.2 with ⟨h, _⟩ | ⟨g', cap, cur, h, hb, hg, hl, hmx, hs, ht⟩
  · simp at h
  · simp only [Value.slice.injEq, Option.some.injEq, Addr.mk.injEq, and_true] at h
    obtain ⟨rfl, -, rfl⟩ := h
    intro j hj
    refine ⟨?_, by simp [World.frozen?, hg]⟩
    rw [cell_of_row _ _ _ _ _ _ hg, Nat.zero_add, Array.getElem?_eq_getElem (by omega)]
    rfl
theorem Wt.step {w wr : World} {E : List Ent} {m : Nat → Nat → Int} {i j g n c : Nat} (h : Wt w E m i j wr) (hi : i < E.length) (e : E[i].lv = .slice (some ⟨g, 0, none⟩) n c) (hj : j < c) (hd : Dis E) : Wt w E m i (j + 1) (wr.setCell ⟨g, j, none⟩ (.int .u8 (m i j))) := by
  have hsome := (h.there E[i] (List.getElem_mem _) g n c e j hj).1
  rw [Nat.zero_add] at hsome
  obtain ⟨v0, hv0⟩ := Option.isSome_iff_exists.1 hsome
  refine ⟨h.keeps.trans (Keeps.setCell wr g j _) (fun k _ hk => ⟨E[i], List.getElem_mem _, by rw [e, hk]; rfl⟩), fun x hm g' n' c' hv => ?_, fun i' h' hlt g' n' c' hv jj hjj => ?_, fun h' g' n' c' hv jj hjj hjc => ?_⟩
  · have := World.there_setCells (h.there x hm g' n' c' hv) g j [.int .u8 (m i j)]
    exact this
  · have hne : g' ≠ g := hd i' i h' hi (by omega) g' n' c' g n c hv e
    exact (World.cell?_of_block (a := ⟨g', jj, none⟩) (Below.heap_setCell _ _ _ _ hne)).trans (h.done i' h' hlt g' n' c' hv jj hjj)
  · rw [e] at hv
    simp only [Value.slice.injEq, Option.some.injEq, Addr.mk.injEq, and_true] at hv
    obtain ⟨rfl, -, rfl⟩ := hv
    by_cases hq : jj = j
    · subst hq
      exact World.cell?_setCell_same _ _ _ hv0
    · rw [World.cell?_setCell_other _ _ _ _ (fun e => hq (by simp only [Addr.mk.injEq, and_true, true_and] at e; exact e.symm))]
      exact h.part h' _ _ _ e jj (by omega) hjc
theorem Wt.drew {w wr : World} {E : List Ent} {m : Nat → Nat → Int} {i j : Nat} (h : Wt w E m i j wr) : Wt w E m i j wr.drew := ⟨h.keeps.drew, h.there, h.done, h.part⟩
theorem Wt.next {w wr : World} {E : List Ent} {m : Nat → Nat → Int} {i j : Nat} (h : Wt w E m i j wr) (hc : ∀ (hi : i < E.length) g n c, E[i].lv = .slice (some ⟨g, 0, none⟩) n c → c ≤ j) : Wt w E m (i + 1) 0 wr := by
  refine ⟨h.keeps, h.there, fun i' h' hlt g n c hv jj hjj => ?_, fun _ _ _ _ _ _ h => by omega⟩
  by_cases hq : i' = i
  · subst hq
    exact h.part h' g n c hv jj (Nat.lt_of_lt_of_le hjj (hc h' g n c hv)) hjj
  · exact h.done i' h' (by omega) g n c hv jj hjj
/-- the book stands where its lists are written -/
theorem Bw.wt {w wr : World} {base kb : Nat} {lv wv : Value} {held : Int} {E : List Ent} {m : Nat → Nat → Int} {i j : Nat} (h : Bw pfA pfB pfC pfD pfE w base kb lv wv held (E.map Ent.lv) (E.map Ent.wv)) (he : ∀ x ∈ E, x.ok w base) (k : Wt w E m i j wr) : Bw pfA pfB pfC pfD pfE wr base kb lv wv held (E.map Ent.lv) (E.map Ent.wv) := by
  have tg : ∀ q, (∃ e ∈ E, e.lv.ownBlock = some q) → ∃ cur, w.heap[q]? = some (.cells cur 5 (0, 0)) := fun q ⟨e, hm, hq⟩ => (he e hm).l.tagB q hq
  refine ⟨(k.keeps.block kb h.lt (fun hs => ?_)).trans h.blk, h.lrow.keeps k.keeps (fun q hq hs => ?_), h.wrow.keeps k.keeps (fun q hq hs => ?_), h.ne⟩
  · obtain ⟨c, hc⟩ := tg _ hs
    rw [h.blk] at hc
    simp at hc
  · obtain ⟨c, hc⟩ := tg _ hs
    obtain ⟨d, hd⟩ := h.lrow.tag q hq
    rw [hd] at hc
    simp at hc
  · obtain ⟨c, hc⟩ := tg _ hs
    obtain ⟨d, hd⟩ := h.wrow.tag q hq
    rw [hd] at hc
    simp at hc
set_option maxRecDepth 100000 in
set_option maxHeartbeats 4000000 in
theorem apartB_any {w : World} {base kb fm : Nat} {lv wv : Value} {held : Int} {E : List Ent} {m : Nat → Nat → Int} (h : Bw pfA pfB pfC pfD pfE w base kb lv wv held (E.map Ent.lv) (E.map Ent.wv)) (he : ∀ x ∈ E, x.ok w base) (hlen : E.length ≤ 4000) (hd : Dis E) (hen : Enters Tryz.prog fm)
    (hm : ∀ (i j : Nat) (w : World), i ≤ 4000 → j < maxLen → Calls Tryz.prog fm #[.int .i64 (i : Int), .int .i64 (j : Int)] w fun e w' => e = .returned (.int .u8 (m i j)) ∧ w' = w) :
    Calls Tryz.prog 9 #[.pointer (some ⟨kb, 1, none⟩), .func (.func fm) #[] #[]] w fun e w' => e = .returned (.bool true) ∧ Keeps (fun k => k = kb ∨ ∃ e ∈ E, e.lv.ownBlock = some k) w w' ∧ w'.heap[kb]? = some (.cells #[pfA, .slice none 0 0, .slice none 0 0, .int .i64 0, .bool false, pfB, pfC, pfD, pfE] 48 (0, 0)) := by
  have HSt := Lib.hid (staysB_any h he hlen)
  have HE : Hid (∀ x ∈ E, x.ok w base) := he
  have HBw := Lib.hid h
  have HD : Hid (Dis E) := hd
  have HM : Hid (∀ (i j : Nat) (w : World), i ≤ 4000 → j < maxLen → Calls Tryz.prog fm #[.int .i64 (i : Int), .int .i64 (j : Int)] w fun e w' => e = .returned (.int .u8 (m i j)) ∧ w' = w) := hm
  have he' : ∀ (args : Array Value) (w : World), (callFunc fm args).run Tryz.prog w = .ok (.enter fm args) w := hen
  clear h he hd hm
  go_enter Tryz.func9, Tryz.ntmps9
  go_wp2_with fail
  refine HSt.out.mono ?_
  rintro e w1 ⟨rfl, hb1, hk1⟩
  obtain ⟨a1, b1, rfl⟩ := hb1.lrow.form
  obtain ⟨a2, b2, rfl⟩ := hb1.wrow.form
  simp only [List.length_map] at hb1
  obtain ⟨n, hn⟩ : ∃ n, E.length = n := ⟨_, rfl⟩
  rw [hn] at hb1 hlen
  have HN : Hid (E.length = n) := hn
  have HB1 := Lib.hid hb1
  have HK1 : Hid (Keeps (fun k => k = kb) w w1) := hk1
  have HE1 : Hid (∀ x ∈ E, x.ok w1 base) := fun x hx => by
    have := HE.out x hx
    exact ⟨this.l.ke HBw.out.blk (hk1.ke (base := base)), this.w.ke HBw.out.blk (hk1.ke (base := base)), this.sm⟩
  have HF : Hid (∀ (i : Nat), i < n → ∃ pa pn pc, (E.map Ent.lv)[i]? = some (.slice pa pn pc) ∧ ((pa = none ∧ pn = 0 ∧ pc = 0 ∧ ∀ h : i < E.length, E[i].lv = .slice none 0 0) ∨ ∃ g, pa = some ⟨g, 0, none⟩ ∧ ∃ h : i < E.length, E[i].lv = .slice (some ⟨g, 0, none⟩) pn pc ∧ pn ≤ pc ∧ pc ≤ maxLen)) := fun i hi => by
    have hi' : i < E.length := by rw [HN.out]; exact hi
    rw [List.getElem?_map, List.getElem?_eq_getElem hi']
    rcases (HE1.out E[i] (List.getElem_mem _)).l.2 with ⟨e, _⟩ | ⟨g, cap, cur, e, hb, hg, h1, h2, _⟩
    · exact ⟨none, 0, 0, by rw [← e]; rfl, .inl ⟨rfl, rfl, rfl, fun _ => e⟩⟩
    · exact ⟨some ⟨g, 0, none⟩, _, cap, by rw [← e]; rfl, .inr ⟨g, rfl, hi', e, h1, h2⟩⟩
  clear hb1 hk1 hn HSt
  go_wp2_with fail
  go_loopw [5] (fun i wr => ∃ j : Nat, j ≤ n ∧ i = .int .i64 (j : Int) ∧ Hid (Wt w1 E m j 0 wr)) (fun i _ => n - (intOf i).toNat)
  case atStart => exact ⟨0, by omega, rfl, Wt.start HE1.out (Keeps.refl _ _)⟩
  case round =>
    obtain ⟨i, hi, rfl, HW⟩ := hrel
    have HB2 : Hid (Bw pfA pfB pfC pfD pfE wr base kb (.slice a1 n b1) (.slice a2 n b2) held (E.map Ent.lv) (E.map Ent.wv)) := HB1.out.wt HE1.out HW.out
    obtain ⟨x0, x1, x2, x3⟩ := HB2.out.cells
    by_cases hin : i < n
    · have d1 : decide ((i : Int) < (n : Int)) = true := decide_eq_true (by omega)
      have ji : (i : Int) < (n : Int) := by omega
      have hw1 : IntKind.i64.wrap ((i : Int) + 1) = ((i + 1 : Nat) : Int) := by rw [IntKind.wrap_i64]; omega
      obtain ⟨g1, o1, c1', e1, hc1⟩ := HB2.out.lrow.some_of (by rw [List.length_map, HN.out]; omega)
      simp only [List.length_map, Value.slice.injEq] at e1
      obtain ⟨rfl, -, rfl⟩ := e1
      have y1 := HB2.out.lrow.cell i (by rw [List.length_map, HN.out]; omega)
      obtain ⟨pa, pn, pc, hgt, hform⟩ := HF.out i hin
      rw [List.getElem?_eq_getElem (by rw [List.length_map, HN.out]; omega)] at hgt
      rw [Option.some.inj hgt] at y1
      have HFm := Lib.hid hform
      clear hgt hc1
      go_upto_region 6 with fail
      go_cut [6] (fun y wx => y = .slice pa pc pc ∧ wx = wr.drew)
      case first =>
        rcases hform with ⟨rfl, rfl, rfl, -⟩ | ⟨g, rfl, _, _, hp1, hp2⟩
        · go_region_held3 (fun w' => w'.cell? ⟨kb, 1, none⟩ = some (.slice (some ⟨g1, o1, none⟩) n b1) ∧ w'.cell? ⟨g1, o1 + i, none⟩ = some (.slice none 0 0)) (go_keep) (fail)
          all_goals
            go_wp2_with fail
            go_meet
            exact ⟨rfl, rfl⟩
        · go_region_held3 (fun w' => w'.cell? ⟨kb, 1, none⟩ = some (.slice (some ⟨g1, o1, none⟩) n b1) ∧ w'.cell? ⟨g1, o1 + i, none⟩ = some (.slice (some ⟨g, 0, none⟩) pn pc)) (go_keep) (fail)
          all_goals
            go_wp2_with fail
            go_meet
            exact ⟨rfl, rfl⟩
      case rest =>
        obtain ⟨rfl, hw⟩ := hcut
        subst hw
        clear hform
        go_wp2_with fail
        go_loopw [7] (fun jv wq => ∃ jj : Nat, jj ≤ pc ∧ jv = .int .i64 (jj : Int) ∧ Hid (Wt w1 E m i jj wq)) (fun jv _ => pc - (intOf jv).toNat)
        case atStart => exact ⟨0, by omega, rfl, HW.out.drew⟩
        case round =>
          obtain ⟨jj, hjj, rfl, HQ⟩ := hrel
          by_cases hq : jj < pc
          · rcases HFm.out with ⟨_, _, h0, _⟩ | ⟨g, rfl, hi', hv, hp1, hp2⟩
            · omega
            · have d2 : decide ((jj : Int) < (pc : Int)) = true := decide_eq_true (by omega)
              have jji : (jj : Int) < (pc : Int) := by omega
              have hmx : pc ≤ 9223372036854775807 := by unfold maxLen at hp2; omega
              have hw2 : IntKind.i64.wrap ((jj : Int) + 1) = ((jj + 1 : Nat) : Int) := by rw [IntKind.wrap_i64]; omega
              obtain ⟨hs0, z0⟩ := HQ.out.there E[i] (List.getElem_mem _) g pn pc hv jj hq
              rw [Nat.zero_add] at hs0 z0
              obtain ⟨v0, hv0⟩ := Option.isSome_iff_exists.1 hs0
              have HQ2 := Lib.hid (HQ.out.step hi' hv hq HD.out)
              have HMc := Lib.hid (HM.out i jj wr (by omega) (by unfold maxLen; omega))
              clear hs0 hv hi' hp2 HQ
              go_wp2_with fail
              refine HMc.out.mono ?_
              rintro e w9 ⟨rfl, hw9⟩
              subst hw9
              go_wp2_with fail
              go_roundw
              case rel => exact ⟨jj + 1, by omega, rfl, HQ2⟩
              case measure => simp [intOf]; omega
          · have d2 : decide ((jj : Int) < (pc : Int)) = false := decide_eq_false (by omega)
            obtain rfl : jj = pc := by omega
            have HQ2 : Hid (Wt w1 E m (i + 1) 0 wr) := HQ.out.next (fun hi' g n c hv => by
              rcases HFm.out with ⟨_, _, _, hv'⟩ | ⟨g', _, _, hv', _⟩
              · rw [hv' hi'] at hv
                simp at hv
              · rw [hv'] at hv
                simp only [Value.slice.injEq] at hv
                omega)
            go_wp2_with fail
            go_roundw
            case rel => exact ⟨i + 1, by omega, rfl, HQ2⟩
            case measure => simp [intOf]; omega
    · have d1 : decide ((i : Int) < (n : Int)) = false := decide_eq_false (by omega)
      obtain rfl : i = n := by omega
      clear hin
      go_wp2_with fail
      clear d1 x0 x1 x2 x3 HB2
      go_loopw [8] (fun k wr2 => ∃ j : Nat, j ≤ i ∧ k = .int .i64 (j : Int) ∧ Hid (Wt w1 E m i 0 wr2)) (fun k _ => i - (intOf k).toNat)
      case atStart => exact ⟨0, by omega, rfl, HW⟩
      case round =>
        obtain ⟨q, hq, rfl, HW2⟩ := hrel
        have HB2 : Hid (Bw pfA pfB pfC pfD pfE wr base kb (.slice a1 i b1) (.slice a2 i b2) held (E.map Ent.lv) (E.map Ent.wv)) := HB1.out.wt HE1.out HW2.out
        obtain ⟨x0, x1, x2, x3⟩ := HB2.out.cells
        by_cases hin : q < i
        · have d1 : decide ((q : Int) < (i : Int)) = true := decide_eq_true (by omega)
          have ji : (q : Int) < (i : Int) := by omega
          have hw1 : IntKind.i64.wrap ((q : Int) + 1) = ((q + 1 : Nat) : Int) := by rw [IntKind.wrap_i64]; omega
          obtain ⟨g1, o1, c1', e1, hc1⟩ := HB2.out.lrow.some_of (by rw [List.length_map, HN.out]; omega)
          simp only [List.length_map, Value.slice.injEq] at e1
          obtain ⟨rfl, -, rfl⟩ := e1
          have y1 := HB2.out.lrow.cell q (by rw [List.length_map, HN.out]; omega)
          obtain ⟨pa, pn, pc, hgt, hform⟩ := HF.out q hin
          rw [List.getElem?_eq_getElem (by rw [List.length_map, HN.out]; omega)] at hgt
          rw [Option.some.inj hgt] at y1
          have HFm := Lib.hid hform
          clear hgt hc1
          go_upto_region 14 with fail
          go_cut [9] (fun y wx => y = .slice pa pc pc ∧ wx = wr.drew)
          case first =>
            rcases hform with ⟨rfl, rfl, rfl, -⟩ | ⟨g, rfl, _, _, hp1, hp2⟩
            · go_region_held3 (fun w' => w'.cell? ⟨kb, 1, none⟩ = some (.slice (some ⟨g1, o1, none⟩) i b1) ∧ w'.cell? ⟨g1, o1 + q, none⟩ = some (.slice none 0 0)) (go_keep) (fail)
              all_goals
                go_wp2_with fail
                go_meet
                exact ⟨rfl, rfl⟩
            · go_region_held3 (fun w' => w'.cell? ⟨kb, 1, none⟩ = some (.slice (some ⟨g1, o1, none⟩) i b1) ∧ w'.cell? ⟨g1, o1 + q, none⟩ = some (.slice (some ⟨g, 0, none⟩) pn pc)) (go_keep) (fail)
              all_goals
                go_wp2_with fail
                go_meet
                exact ⟨rfl, rfl⟩
          case rest =>
            obtain ⟨rfl, hw⟩ := hcut
            subst hw
            clear hform
            go_wp2_with fail
            go_loopw [10] (fun jv wq => ∃ jj : Nat, jj ≤ pc ∧ jv = .int .i64 (jj : Int) ∧ Hid (Wt w1 E m i 0 wq)) (fun jv _ => pc - (intOf jv).toNat)
            case atStart => exact ⟨0, by omega, rfl, HW2.out.drew⟩
            case round =>
              obtain ⟨jj, hjj, rfl, HQ⟩ := hrel
              by_cases hq2 : jj < pc
              · rcases HFm.out with ⟨_, _, h0, _⟩ | ⟨g, rfl, hi', hv, hp1, hp2⟩
                · omega
                · have d2 : decide ((jj : Int) < (pc : Int)) = true := decide_eq_true (by omega)
                  have jji : (jj : Int) < (pc : Int) := by omega
                  have hmx : pc ≤ 9223372036854775807 := by unfold maxLen at hp2; omega
                  have hw2 : IntKind.i64.wrap ((jj : Int) + 1) = ((jj + 1 : Nat) : Int) := by rw [IntKind.wrap_i64]; omega
                  have hv0 := HQ.out.done q hi' hin g pn pc hv jj hq2
                  have HMc := Lib.hid (HM.out q jj wr.drew (by omega) (by unfold maxLen; omega))
                  clear hv hi' hp2
                  go_wp2_with fail
                  go_region_held3 (fun w' => w'.cell? ⟨g, jj, none⟩ = some (.int .u8 (m q jj))) (go_keep) (first | (refine HMc.out.mono ?_; rintro e w9 ⟨rfl, hw9⟩; subst hw9))
                  all_goals
                    go_wp2_with fail
                    go_roundw
                    case rel => exact ⟨jj + 1, by omega, rfl, HQ.out.drew⟩
                    case measure => simp [intOf]; omega
              · have d2 : decide ((jj : Int) < (pc : Int)) = false := decide_eq_false (by omega)
                go_wp2_with fail
                go_roundw
                case rel => exact ⟨q + 1, by omega, rfl, HQ⟩
                case measure => simp [intOf]; omega
        · have d1 : decide ((q : Int) < (i : Int)) = false := decide_eq_false (by omega)
          have z0 := HB2.out.thawed 1
          have z1 := HB2.out.thawed 2
          have z2 := HB2.out.thawed 3
          go_wp2_with fail
          go_ret
          refine ⟨rfl, ?_⟩
          have k1 : Keeps (fun k => k = kb ∨ ∃ e ∈ E, e.lv.ownBlock = some k) w wr := (HK1.out.mono (fun _ _ e => .inl e)).trans HW2.out.keeps (fun _ _ e => .inr e)
          exact ⟨((k1.trans (Keeps.setCell _ _ _ _) (fun _ _ e => .inl e)).trans (Keeps.setCell _ _ _ _) (fun _ _ e => .inl e)).trans (Keeps.setCell _ _ _ _) (fun _ _ e => .inl e), by simp [World.setCell, Array.getElem?_modify, HB2.out.blk]⟩
end Go.Proofs.YtddgoncbdlhhhaaGreat
/- The marks of bytes; a book of bytes, as a law sees it. Own work. -/
namespace Go.Proofs.YtddgoncbdlhhhaaGreat
open Go.RowKit Go.Shelf
variable {pfA pfB pfC pfD pfE : Value}
/-- the mark of the place j of the list i -/
def markB (i j : Nat) : Int := ((i : Int) + 1) / 2 ^ (8 * (j % 3)) % 256
set_option maxRecDepth 100000 in
set_option maxHeartbeats 4000000 in
theorem bytesMark_any (i j : Nat) (w : World) (_hi : i ≤ 4000) (_hj : j < maxLen) :
    Calls Tryz.prog 10 #[.int .i64 (i : Int), .int .i64 (j : Int)] w fun e w' => e = .returned (.int .u8 (markB i j)) ∧ w' = w := by
  go_enter Tryz.func10, Tryz.ntmps10
  go_wp2_with fail
  go_ret
  exact ⟨rfl, rfl⟩
theorem mem_blks {E : List Ent} {k : Nat} : k ∈ blks E ↔ ∃ x ∈ E, x.lv.ownBlock = some k ∨ x.wv.ownBlock = some k := by
  simp [blks, Ent.bl, List.mem_flatMap, Option.mem_toList]
theorem Bk.bw {w : World} {base kb : Nat} {lv wv : Value} {held : Int} {E : List Ent} (h : Bk pfA pfB pfC pfD pfE w base kb lv wv held E) : Bw pfA pfB pfC pfD pfE w base kb lv wv held (E.map Ent.lv) (E.map Ent.wv) := ⟨h.blk, h.lrow, h.wrow, h.ne⟩
theorem blks_lt {w : World} {base : Nat} {E : List Ent} (he : ∀ x ∈ E, x.ok w base) : ∀ k ∈ blks E, k < w.heap.size := fun k hk => by
  obtain ⟨x, hx, h | h⟩ := mem_blks.1 hk
  · exact ((he x hx).l.lt k h).2
  · exact ((he x hx).w.lt k h).2
theorem bk_new {w : World} {base kb : Nat} (h : w.heap[kb]? = some (.cells #[pfA, .slice none 0 0, .slice none 0 0, .int .i64 0, .bool false, pfB, pfC, pfD, pfE] 48 (0, 0))) : Bk pfA pfB pfC pfD pfE w base kb (.slice none 0 0) (.slice none 0 0) 0 [] :=
  ⟨h, RowV.nil _ _ _, RowV.nil _ _ _, fun _ e => (by cases e), fun _ h => (by cases h), List.nodup_nil⟩
theorem blks_append (E F : List Ent) : blks (E ++ F) = blks E ++ blks F := by simp [blks]
theorem bk_keep {w : World} {base kb : Nat} {lv wv : Value} {held : Int} {E : List Ent} {la : Option Addr} {ln lc : Nat} {xs : List Nat} (h : Bk pfA pfB pfC pfD pfE w base kb lv wv held E) (hl : Own w base (.slice la ln lc) xs) (hxs : xs.length ≤ 140737488351232) (hsm : ∀ z ∈ xs, z < 256) (hlen : E.length ≤ 4000) (hbase : base ≤ w.heap.size) (hf : ∀ k, (Value.slice la ln lc).ownBlock = some k → k ∉ blks E) :
    Calls Tryz.prog 35 #[.pointer (some ⟨kb, 1, none⟩), .slice la ln lc] w fun e w' => e = .returned (.tuple #[]) ∧ ∃ lv' wv' held' E', Bk pfA pfB pfC pfD pfE w' base kb lv' wv' held' E' ∧ E'.length ≤ 4000 ∧ (∀ k ∈ blks E', k ∈ blks E ∨ (Value.slice la ln lc).ownBlock = some k ∨ w.heap.size ≤ k) ∧ Ke base kb w w' := by
  refine (keepB_any h.bw h.ents hl hxs hsm hlen hbase).mono ?_
  rintro e w' ⟨rfl, cv, hcv, E', hk, hl'⟩
  obtain ⟨lv', wv', held', hb⟩ := hk.bw
  have hsub : (blks E').Sublist (blks (E ++ [⟨.slice la ln lc, cv, xs⟩])) := by
    obtain ⟨t, ht⟩ := hk.suf
    rw [← ht, blks_append]
    exact List.sublist_append_right _ _
  have hbl : blks (E ++ [⟨.slice la ln lc, cv, xs⟩]) = blks E ++ ((Value.slice la ln lc).ownBlock.toList ++ cv.ownBlock.toList) := by rw [blks_append]; simp [blks, Ent.bl]
  have hlt := blks_lt h.ents
  have hnd : (blks (E ++ [⟨.slice la ln lc, cv, xs⟩])).Nodup := by
    rw [hbl]
    refine List.nodup_append.2 ⟨h.nodup, List.nodup_append.2 ⟨?_, ?_, fun a ha b hb e => ?_⟩, fun a ha b hb e => ?_⟩
    · cases (Value.slice la ln lc).ownBlock <;> simp
    · cases cv.ownBlock <;> simp
    · subst e
      have h1 := (hl.lt a (by simpa using ha)).2
      have h2 := hcv a (by simpa using hb)
      omega
    · subst e
      rcases List.mem_append.1 hb with hb | hb
      · exact hf a (by simpa using hb) ha
      · have h1 := hlt a ha
        have h2 := hcv a (by simpa using hb)
        omega
  refine ⟨rfl, lv', wv', held', E', ⟨hb.blk, hb.lrow, hb.wrow, hb.ne, hk.ents, hnd.sublist hsub⟩, hl', fun k hk' => ?_, hk.ke⟩
  have := hsub.subset hk'
  rw [hbl] at this
  rcases List.mem_append.1 this with h1 | h1
  · exact .inl h1
  · rcases List.mem_append.1 h1 with h1 | h1
    · exact .inr (.inl (by simpa using h1))
    · exact .inr (.inr (hcv k (by simpa using h1)))
theorem dis_of {E : List Ent} (h : (blks E).Nodup) : Dis E := by
  intro i i' hi hi' hne g n c g' n' c' e e' hg
  subst hg
  have key : ∀ (E : List Ent), (blks E).Nodup → ∀ i i' (hi : i < E.length) (hi' : i' < E.length), i < i' → E[i].lv.ownBlock = some g → E[i'].lv.ownBlock = some g → False := by
    intro E
    induction E with
    | nil => intro _ i _ hi; simp at hi
    | cons x xs ih =>
      intro hnd i i' hi hi' hlt h1 h2
      have hc : blks (x :: xs) = x.bl ++ blks xs := by simp [blks]
      rw [hc] at hnd
      obtain ⟨_, n2, n3⟩ := List.nodup_append.1 hnd
      cases i' with
      | zero => omega
      | succ k' =>
        have hk' : k' < xs.length := by simpa using hi'
        simp only [List.getElem_cons_succ] at h2
        cases i with
        | zero =>
          simp only [List.getElem_cons_zero] at h1
          refine n3 g ?_ g ?_ rfl
          · simp [Ent.bl, h1]
          · exact mem_blks.2 ⟨xs[k'], List.getElem_mem _, .inl h2⟩
        | succ k =>
          simp only [List.getElem_cons_succ] at h1
          exact ih n2 k k' (by simpa using hi) (by simpa using hi') (by omega) h1 h2
  have b1 : E[i].lv.ownBlock = some g := by rw [e]; rfl
  have b2 : E[i'].lv.ownBlock = some g := by rw [e']; rfl
  rcases Nat.lt_or_gt_of_ne hne with hlt | hlt
  · exact key E h i i' hi hi' hlt b1 b2
  · exact key E h i' i hi' hi hlt b2 b1
theorem bk_apart {w : World} {base kb : Nat} {lv wv : Value} {held : Int} {E : List Ent} (h : Bk pfA pfB pfC pfD pfE w base kb lv wv held E) (hlen : E.length ≤ 4000) :
    Calls Tryz.prog 9 #[.pointer (some ⟨kb, 1, none⟩), .func (.func 10) #[] #[]] w fun e w' => e = .returned (.bool true) ∧ Keeps (fun k => k = kb ∨ ∃ e ∈ E, e.lv.ownBlock = some k) w w' ∧ w'.heap[kb]? = some (.cells #[pfA, .slice none 0 0, .slice none 0 0, .int .i64 0, .bool false, pfB, pfC, pfD, pfE] 48 (0, 0)) :=
  apartB_any h.bw h.ents hlen (dis_of h.nodup) (enters_of Tryz.func10 (by kernel_rfl) rfl) (fun i j w hi hj => bytesMark_any i j w hi hj)
end Go.Proofs.YtddgoncbdlhhhaaGreat
/- twin of the pages. Own work. -/
namespace Go.Proofs.YtddgoncbdlhhhaaGreat
open Go.RowKit Go.Maps
def mkP (c : Option Nat) : Value := .pointer (c.map fun g => ⟨g, 0, none⟩)
theorem ptrE_form (v : Value) (y : DataW Unit × List MemPlace) (h : ptrE v = some y) : ∃ c, v = mkP c := by
  unfold ptrE at h
  split at h
  · exact ⟨none, rfl⟩
  · exact ⟨some _, rfl⟩
  · cases h
theorem has_of_atKey {D : DataW Unit} {kl : Lit} {y : DataW Unit} (h : ∀ zd, D.atKey kl zd = y) : Maps.has D kl = true := by
  cases e : Maps.has D kl with
  | true => rfl
  | false =>
    have h1 := h .nil
    have h2 := h (.lit (.bool true))
    rw [atKey_of_not_has e] at h1 h2
    rw [← h1] at h2
    cases h2
theorem wpList_plen {w : World} {ops : Array Oper} {rest : List Oper} {o : Oper} {a : Act} {Q : Exit → Act → World → Prop} (hgd : o.guard = none) (x : Operand) (ho : o.op = .call { callee := .builtin .len, args := #[x], argTypes := #[106] })
    {B c : Nat} {T : Nat → Option Nat} (hx : a.eval x = .map (some B)) (hM : MapT w B T c) (h : wpList Tryz.prog ops Q rest (a.put o.dst (.int .i64 (c : Int))) w) : wpList Tryz.prog ops Q (o :: rest) a w := by
  refine wpList_plain hgd fun K hK => ?_
  unfold Oper.wp
  simp [execOp, ho, resolve, invoke, builtin, hx, hM.len o.type, Result.andThen]
  exact hK _ _ h
/-- a row of all pages that hold something has as many keys at least -/
theorem cnt_keys {D : DataW Unit} (hD : Maps.Tidy D) {M : Nat → Nat} (h : ∀ k : Nat, k < pagesN → nz M k = true → Maps.has D (.int .u64 (k : Int)) = true) : ∀ j, j ≤ pagesN → ∃ E : DataW Unit, Maps.Tidy E ∧ Maps.size E + cntN M j ≤ Maps.size D ∧ ∀ k : Nat, j ≤ k → k < pagesN → nz M k = true → Maps.has E (.int .u64 (k : Int)) = true
  | 0, _ => ⟨D, hD, Nat.le_refl _, fun k _ hk hn => h k hk hn⟩
  | j + 1, hj => by
    obtain ⟨E, hE, hs, hk⟩ := cnt_keys hD h j (by omega)
    have hz := size_del (k := .int .u64 (j : Int)) hE
    refine ⟨E.del (.int .u64 (j : Int)), hE.del _, ?_, fun k hjk hkp hn => ?_⟩
    · unfold cntN
      cases hn : nz M j with
      | true =>
        rw [hk j (Nat.le_refl _) (by omega) hn] at hz
        simp only [if_true] at hz ⊢
        omega
      | false =>
        simp only [Bool.false_eq_true, if_false]
        omega
    · rw [has_del_other (lit_ne (by omega))]
      exact hk k (by omega) hkp hn
theorem MapT.full {w : World} {B n : Nat} {T : Nat → Option Nat} {M : Nat → Nat} (h : MapT w B T n) (hT : ∀ k, T k = none → isZ M k) : cnt M ≤ n := by
  obtain ⟨D, ho, hsz, h3, _⟩ := h
  obtain ⟨E, _, h1, _⟩ := cnt_keys (D := D) (M := M) (ho.tidy key_page) (fun k hk hn => by
    have hk2 : k < 4503599627370496 := by unfold pagesN at hk; omega
    cases e : T k with
    | none => rw [nz_false.2 (hT k e)] at hn; cases hn
    | some g => exact ((h3 k hk2).2 g e).1) pagesN (Nat.le_refl _)
  have : cnt M = cntN M pagesN := rfl
  omega
theorem ranges_keeps {S : Nat → Prop} {w w' : World} {k : TypeId} {R : Value → Option (DataW Unit × List MemPlace)} {b r n : Nat} {D : DataW Unit} {left : Lit → Bool} {c : Nat} (h : w.ranges Tryz.prog k R b r n D left c) (hk : Keeps S w w') (hb' : ¬ S b) (hr' : ¬ S r) : w'.ranges Tryz.prog k R b r n D left c := by
  have h1 := h.owns.lt
  have h2 := h.lt
  obtain ⟨es, clock, since, seen, c0, hb, F, hs, hD, hr, rest⟩ := h
  exact ⟨es, clock, since, seen, c0, (hk.block b h1 hb').trans hb, F, hs, hD, (hk.block r h2 hr').trans hr, rest⟩
theorem ranges_no_row {w : World} {k : TypeId} {R : Value → Option (DataW Unit × List MemPlace)} {b r n g : Nat} {D : DataW Unit} {left : Lit → Bool} {c : Nat} {L : List Nat} (h : w.ranges Tryz.prog k R b r n D left c) (hp : Pg w g L) : g ≠ r := fun e => by
  subst e
  obtain ⟨es, clock, since, seen, c0, hb, F, hs, hD, hr, rest⟩ := h
  rw [show w.heap[g]? = _ from hp] at hr
  cases hr
/-- where twin's loop stands: what is no longer to come has its page anew -/
def TwinAt (w wr : World) (B' : Nat) (T : Nat → Option Nat) (M : Nat → Nat) (left : Lit → Bool) (c : Nat) : Prop :=
  ∃ (T' : Nat → Option Nat) (n : Nat), MapT wr B' T' n ∧ n + c ≤ cnt M ∧ (∀ k : Nat, left (.int .u64 (k : Int)) = true ∨ T k = none → T' k = none) ∧ (∀ (k g : Nat), left (.int .u64 (k : Int)) = false → T k = some g → ∃ g', T' k = some g') ∧ (∀ k g', T' k = some g' → Pg wr g' (pageOf M k) ∧ w.heap.size ≤ g') ∧ (∀ k k' g, T' k = some g → T' k' = some g → k = k') ∧ Below w.heap.size w wr
theorem Pg.no_map {w : World} {g B n : Nat} {L : List Nat} {T : Nat → Option Nat} (h : Pg w g L) (hM : MapT w B T n) : g ≠ B := fun e => by
  subst e
  exact hM.no_row h
theorem TwinAt.keeps {S : Nat → Prop} {w wr w1 : World} {B' : Nat} {T : Nat → Option Nat} {M : Nat → Nat} {left : Lit → Bool} {c : Nat} (h : TwinAt w wr B' T M left c) (hk : Keeps S wr w1) (hB : ¬ S B') (hP : ∀ g L, Pg wr g L → w.heap.size ≤ g → ¬ S g) (hS : ∀ j, S j → w.heap.size ≤ j) : TwinAt w w1 B' T M left c := by
  obtain ⟨T', n, h1, h2, h3, h4, h5, h6, h7⟩ := h
  exact ⟨T', n, h1.keeps hk hB, h2, h3, h4, fun k g e => ⟨(h5 k g e).1.keeps hk (hP g _ (h5 k g e).1 (h5 k g e).2), (h5 k g e).2⟩, h6, h7.trans (hk.below h7.size (fun i _ hs => hS i hs))⟩
theorem sameKey_int {a b : Nat} (h : (Lit.int .u64 (a : Int)).sameKey (.int .u64 (b : Int)) = true) : a = b := by
  have := (Lit.int.inj (WideAt.sameKey_eq h)).2
  omega
theorem TwinAt.put {w w2 w3 : World} {B' k g0 g2 : Nat} {T T' : Nat → Option Nat} {M : Nat → Nat} {left : Lit → Bool} {c c1 n : Nat} (hn : n + c ≤ cnt M) (h3 : ∀ k : Nat, left (.int .u64 (k : Int)) = true ∨ T k = none → T' k = none) (h4 : ∀ (k g : Nat), left (.int .u64 (k : Int)) = false → T k = some g → ∃ g', T' k = some g') (h5 : ∀ k g', T' k = some g' → Pg w2 g' (pageOf M k) ∧ w.heap.size ≤ g') (h6 : ∀ k k' g, T' k = some g → T' k' = some g → k = k') (h7 : Below w.heap.size w w2)
    (hBl : w.heap.size ≤ B') (hM2 : MapT w2 B' T' n) (hT : T k = some g0) (hc : c1 < c) (hp : Pg w2 g2 (pageOf M k)) (hg2 : w.heap.size ≤ g2) (hfresh : ∀ j, T' j ≠ some g2) (hM : MapT w3 B' (upd T' k (some g2)) (n + 1)) (hk : Keeps (fun j => j = B') w2 w3) : TwinAt w w3 B' T M (fun z => left z && !z.sameKey (.int .u64 (k : Int))) c1 := by
  refine ⟨upd T' k (some g2), n + 1, hM, by omega, fun j hj => ?_, fun j g hl ht => ?_, fun j g' e => ?_, fun j j' g e e' => ?_, h7.trans (hk.below h7.size (fun i _ hs => by omega))⟩
  · by_cases e : j = k
    · subst e
      rcases hj with hj | hj
      · have : (Lit.int .u64 (j : Int)).sameKey (.int .u64 (j : Int)) = true := WideAt.sameKey_self (isKey j)
        have hj2 : (left (.int .u64 (j : Int)) && !(Lit.int .u64 (j : Int)).sameKey (.int .u64 (j : Int))) = true := hj
        rw [this] at hj2
        simp at hj2
      · rw [hT] at hj; cases hj
    · rw [upd_other _ _ e]
      refine h3 j (hj.imp (fun h => ?_) id)
      rw [Bool.and_eq_true] at h
      exact h.1
  · by_cases e : j = k
    · subst e
      exact ⟨g2, upd_same _ _ _⟩
    · rw [upd_other _ _ e]
      have hl2 : (left (.int .u64 (j : Int)) && !(Lit.int .u64 (j : Int)).sameKey (.int .u64 (k : Int))) = false := hl
      refine h4 j g ?_ ht
      cases hlj : left (.int .u64 (j : Int)) with
      | false => rfl
      | true =>
        rw [hlj, Bool.true_and, Bool.not_eq_false'] at hl2
        exact absurd (sameKey_int hl2) e
  · by_cases e1 : j = k
    · subst e1
      rw [upd_same] at e
      cases e
      exact ⟨hp.keeps hk (hp.no_map hM2), hg2⟩
    · rw [upd_other _ _ e1] at e
      exact ⟨(h5 j g' e).1.keeps hk ((h5 j g' e).1.no_map hM2), (h5 j g' e).2⟩
  · by_cases e1 : j = k
    · by_cases e2 : j' = k
      · rw [e1, e2]
      · subst e1
        rw [upd_same] at e
        cases e
        rw [upd_other _ _ e2] at e'
        exact absurd e' (hfresh _)
    · by_cases e2 : j' = k
      · subst e2
        rw [upd_same] at e'
        cases e'
        rw [upd_other _ _ e1] at e
        exact absurd e (hfresh _)
      · rw [upd_other _ _ e1] at e
        rw [upd_other _ _ e2] at e'
        exact h6 _ _ _ e e'
theorem wpList_store_page {w w0 : World} {ops : Array Oper} {rest : List Oper} {o : Oper} {a : Act} {Q : Exit → Act → World → Prop} (hgd : o.guard = none) (x v : Operand) (ho : o.op = .store 168 x v) {g : Nat} {L : List Nat} (hx : a.eval x = .pointer (some ⟨g, 0, none⟩)) (hv : a.eval v = .agg (bvs L).toArray) (hl : L.length = 4096) (hw : w = w0.alloc (.cells (bvs zeros4).toArray 168)) (hg : g = w0.heap.size)
    (h : ∀ w', w' = w0.alloc (.cells (bvs L).toArray 168) → wpList Tryz.prog ops Q rest (a.put o.dst undef) w') : wpList Tryz.prog ops Q (o :: rest) a w := by
  subst hw hg
  have hi := info_page
  have hsz : (Tryz.prog.info? 168).map (·.size) = some (bvs L).toArray.size := by
    rw [List.size_toArray, bvs_length, hl]
    cases hq : Tryz.prog.info? 168 with
    | none => rw [hq] at hi; cases hi
    | some i =>
      rw [hq] at hi
      simp only [Option.map_some, Option.some.injEq, Prod.mk.injEq] at hi
      rw [Option.map_some, hi.2]
  have hr := run_storeAt_new (P := Tryz.prog) w0 168 (bvs zeros4).toArray (bvs L).toArray hsz (by rw [List.size_toArray, List.size_toArray, bvs_length, bvs_length, hl]; exact List.length_replicate) (by
    rw [Array.all_eq_true_iff_forall_mem]
    intro u hu
    exact bvs_one L u (by simpa using hu))
  refine wpList_plain hgd fun K hK => ?_
  unfold Oper.wp execOp
  simp only [ho, hx, hv, Sem.run_bind, Sem.run_pure, Result.andThen_ok, hr]
  exact hK _ _ (h _ rfl)
theorem run_makeMap_hint (n : Nat) (w : World) : (Instr.makeMap 106 (some (.int .i64 (n : Int)))).run Tryz.prog w = .ok (.map (some w.heap.size)) (w.alloc (.map #[] 0)) := by
  simp [Instr.makeMap, run_underlying Tryz.underlying106, asInt, asIntOf]
set_option maxRecDepth 100000 in
set_option maxHeartbeats 4000000 in
theorem ptwin_any {w : World} {B : Nat} {T : Nat → Option Nat} {M : Nat → Nat} (h : Held w B T M) :
    Calls Tryz.prog 92 #[.map (some B)] w fun e w' => ∃ B' T', e = .returned (.map (some B')) ∧ Held w' B' T' M ∧ Below w.heap.size w w' ∧ ∀ j, Foot B' T' j → w.heap.size ≤ j := by
  have HH : Hid (Held w B T M) := h
  have HMap : Hid (MapT w B T (cnt M)) := h.1
  have hlt := h.1.lt
  obtain ⟨D, ho, hsz, h3, h6⟩ := h.1
  have HO : Hid (w.ownsMap Tryz.prog 26 ptrE B (cnt M) D) := ho
  have e1 : (w.alloc (.map #[] 0)).heap.size = w.heap.size + 1 := by simp
  have hcn : cnt M ≤ 1048576 := cnt_le M
  have hmm := run_makeMap_hint
  clear h ho
  go_enter Tryz.func92, Tryz.ntmps92
  go_wp2_with (first | (refine wpList_plen rfl _ rfl rfl HMap.out ?_) | (at_range; refine wpList_range_own _ rfl _ 106 rfl 26 152 key_page Tryz.underlying106 _ B (cnt M) D rfl (HO.out.alloc _) ?_; intro w0 hrg0 hg0 hs0))
  go_frame
  rw [e1] at hrg0 hs0 ⊢
  have HT0 : Hid (TwinAt w w0 w.heap.size T M (Maps.has D) (Maps.size D)) := by
    refine ⟨fun _ => none, 0, ?_, by omega, fun _ _ => rfl, fun k g hl ht => ?_, fun k g e => (by cases e), fun k k' g e => (by cases e), ?_⟩
    · exact (MapT.made w).keeps (Keeps.of_grown hg0) (by simp)
    · have hk : k < 1048576 := by
        by_cases hk : pagesN ≤ k
        · rw [HH.out.2.2.2.2.2 k hk] at ht; cases ht
        · unfold pagesN at hk; omega
      rw [((h3 k (by omega)).2 g ht).1] at hl
      cases hl
    · exact ((Below.refl _ _).alloc (Nat.le_refl _) _).grown hg0 (by simp) (fun j hj => by cases hj)
  go_loopw [4] (fun _ wr => ∃ (left : Lit → Bool) (c : Nat), wr.ranges Tryz.prog 26 ptrE B (w.heap.size + 1) (cnt M) D left c ∧ Hid (TwinAt w wr w.heap.size T M left c)) (fun _ wr => wr.rangeLeft B (w.heap.size + 1))
  case atStart => exact ⟨_, _, hrg0, HT0⟩
  case round =>
    obtain ⟨left, c, hrg, HT⟩ := hrel
    go_wp2_with (first | (at_next; refine wpList_next_ranges _ rfl _ rfl 26 key_page ptrE (Value.int .u64) mkP (fun key kl hkey => by obtain ⟨x, rfl, _⟩ := Maps.keyOf_int_inv Tryz.underlying26 hkey; exact ⟨x, rfl⟩) ptrE_form B (w.heap.size + 1) (cnt M) D left c rfl hrg ?_ ?_))
    · intro hc0 hl0
      go_wp2_with fail
      go_ret
      subst hc0
      obtain ⟨T', n', h1, hn, h2, h4, h5, h7, h8⟩ := HT.out
      have hfull : cnt M ≤ n' := h1.full (fun k e => by
        cases ht : T k with
        | none => exact HH.out.2.2.1 k ht
        | some g0 =>
          obtain ⟨g', e'⟩ := h4 k g0 (hl0 _) ht
          rw [e] at e'
          cases e')
      have hnn : n' = cnt M := by omega
      subst hnn
      refine ⟨_, T', rfl, ⟨h1, ⟨fun k g e => ⟨(h5 k g e).1, fun hz => ?_⟩, fun k e => ?_, h7, HH.out.2.2.2.2.1, fun k hk => h2 k (.inr (HH.out.2.2.2.2.2 k hk))⟩⟩, h8, fun j hj => ?_⟩
      · cases ht : T k with
        | none => rw [h2 k (.inr ht)] at e; cases e
        | some g0 => exact (HH.out.2.1 k g0 ht).2 hz
      · cases ht : T k with
        | none => exact HH.out.2.2.1 k ht
        | some g0 =>
          obtain ⟨g', e'⟩ := h4 k g0 (hl0 _) ht
          rw [e] at e'
          cases e'
      · rcases hj with rfl | ⟨k, hk⟩
        · exact Nat.le_refl _
        · exact (h5 k j hk).2
    · intro x cc kl y1 y2 w1 c1 hkey hlk hv hat hrg1 hlt2 hg1 hs1 hen
      have hhas := has_of_atKey hat
      obtain ⟨x', ex, ekl, _⟩ := Maps.keyOf_int_inv Tryz.underlying26 hkey
      cases ex
      obtain ⟨k, hk52, ek⟩ := h6 kl hhas
      obtain rfl : x = (k : Int) := by
        have := ekl.symm.trans ek
        exact (Lit.int.inj this).2
      subst ekl
      obtain ⟨g, hTk⟩ : ∃ g, T k = some g := by
        cases e : T k with
        | none => rw [(h3 k hk52).1 e] at hhas; cases hhas
        | some g => exact ⟨g, rfl⟩
      have hcc : mkP cc = .pointer (some ⟨g, 0, none⟩) := by
        have h9 := hat .nil
        rw [((h3 k hk52).2 g hTk).2] at h9
        have h9 : DataW.lit (.int .u64 (g : Int)) = y1 := h9
        subst h9
        exact ptrE_inv hv
      rw [hcc] at hen ⊢
      have hK1 : Keeps (fun j => j = w.heap.size + 1) wr w1 := (Keeps.of_grown hg1).mono fun i _ e => (Option.some.inj e).symm
      have HT1 : Hid (TwinAt w w1 w.heap.size T M left c) := HT.out.keeps hK1 (by omega) (fun g L hp _ => ranges_no_row hrg hp) (fun j e => by omega)
      obtain ⟨T', n, hM', hn', q3, q4, q5, q6, q7⟩ := HT1.out
      have HQ : Hid (n + c ≤ cnt M ∧ (∀ k : Nat, left (.int .u64 (k : Int)) = true ∨ T k = none → T' k = none) ∧ (∀ (k g : Nat), left (.int .u64 (k : Int)) = false → T k = some g → ∃ g', T' k = some g') ∧ (∀ k g', T' k = some g' → Pg w1 g' (pageOf M k) ∧ w.heap.size ≤ g') ∧ (∀ k k' g, T' k = some g → T' k' = some g → k = k') ∧ Below w.heap.size w w1) := ⟨hn', q3, q4, q5, q6, q7⟩
      have HM1 : Hid (MapT w1 w.heap.size T' n) := hM'
      have HT'k : Hid (T' k = none) := q3 k (.inl hlk)
      have HPg : Hid (Pg w1 g (pageOf M k)) := (q7.block g ((HH.out.2.1 k g hTk).1).lt).trans (HH.out.2.1 k g hTk).1
      have HRg : Hid (w1.ranges Tryz.prog 26 ptrE B (w.heap.size + 1) (cnt M) D (fun z => left z && !z.sameKey (.int .u64 (k : Int))) c1) := hrg1
      have HTk : Hid (T k = some g) := hTk
      have HLt : Hid (c1 < c) := hlt2
      have HLe : Hid (wr.rangeLeft B (w.heap.size + 1) = c) := hrg.left_eq
      have hsz1 := q7.size
      clear hn' q3 q4 q5 q6 q7 hM' hTk hlt2 hrg1 hK1 HT HT1 hkey hlk hv hat hhas hcc ek hg1 hs1 hrg h3 h6
      have hK3 : Keeps (fun _ => False) w1 (w1.alloc (.cells (bvs (pageOf M k)).toArray 168)) := Keeps.of_below ((Below.refl _ _).alloc (Nat.le_refl _) _)
      have HM3 : Hid (MapT (w1.alloc (.cells (bvs (pageOf M k)).toArray 168)) w.heap.size T' n) := HM1.out.keeps hK3 (fun h => h)
      have HP3 : Hid (Pg (w1.alloc (.cells (bvs (pageOf M k)).toArray 168)) w1.heap.size (pageOf M k)) := heap_alloc_new w1 _
      have HR3 : Hid ((w1.alloc (.cells (bvs (pageOf M k)).toArray 168)).ranges Tryz.prog 26 ptrE B (w.heap.size + 1) (cnt M) D (fun z => left z && !z.sameKey (.int .u64 (k : Int))) c1) := ranges_keeps HRg.out hK3 (fun h => h) (fun h => h)
      have HQ3 : Hid (n + c ≤ cnt M ∧ (∀ k : Nat, left (.int .u64 (k : Int)) = true ∨ T k = none → T' k = none) ∧ (∀ (k g : Nat), left (.int .u64 (k : Int)) = false → T k = some g → ∃ g', T' k = some g') ∧ (∀ q g', T' q = some g' → Pg (w1.alloc (.cells (bvs (pageOf M k)).toArray 168)) g' (pageOf M q) ∧ w.heap.size ≤ g') ∧ (∀ k k' g, T' k = some g → T' k' = some g → k = k') ∧ Below w.heap.size w (w1.alloc (.cells (bvs (pageOf M k)).toArray 168)) ∧ ∀ j, T' j ≠ some w1.heap.size) := by
        obtain ⟨z1, z2, z3, z4, z5, z6⟩ := HQ.out
        refine ⟨z1, z2, z3, fun q g e => ⟨(z4 q g e).1.keeps hK3 (fun h => h), (z4 q g e).2⟩, z5, z6.alloc z6.size _, fun j e => ?_⟩
        have := (z4 j _ e).1.lt
        omega
      have hnm : Hid (n < maxLen) := by
        have := HQ.out.1
        show n < maxLen
        unfold maxLen
        omega
      clear hK3 HQ HM1 HRg
      go_wp2_with (first | (refine wpList_load_page rfl _ rfl rfl HPg.out (pageOf_length _ _) ?_) | (refine wpList_new_page rfl rfl ?_; intro w2 hw2) | (refine wpList_store_page rfl _ _ rfl rfl rfl (pageOf_length _ _) hw2 rfl ?_; intro w3 hw3; subst hw3) | (refine wpList_put_page rfl _ _ _ rfl rfl rfl rfl HM3.out HT'k.out hk52 hnm.out ?_; intro w5 hM5 hK5))
      go_roundw
      case rel =>
        obtain ⟨z1, z2, z3, z4, z5, z6, z7⟩ := HQ3.out
        refine ⟨_, _, _, _, _, _, _, _, _, _, _, _, _, ⟨_, c1, ranges_keeps HR3.out hK5 (by show ¬ B = _; omega) (by show ¬ _ = _; omega), TwinAt.put z1 z2 z3 z4 z5 z6 (Nat.le_refl _) HM3.out HTk.out HLt.out HP3.out hsz1 z7 hM5 hK5⟩, rfl⟩
      case measure =>
        rw [HLe.out, (ranges_keeps HR3.out hK5 (by show ¬ B = _; omega) (by show ¬ _ = _; omega)).left_eq]
        exact HLt.out
end Go.Proofs.YtddgoncbdlhhhaaGreat
