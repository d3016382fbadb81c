import Derived.Test.YtmfkggngjeolcaaGreatDoorPk39
import Derived.Deep.MidRow
import Derived.Shelf.Abstract
/- Book[byte].Stays. Own work. -/
namespace Go.Proofs.YtmfkggngjeolcaaGreatDoor
open Go.RowKit
theorem Ent.slices {w : World} {base : Nat} {x : Ent} (h : x.ok w base) : (∃ a n c, x.lv = .slice a n c) ∧ ∃ a n c, x.wv = .slice a n c := by
  refine ⟨?_, ?_⟩
  · rcases h.l.2 with ⟨e, _⟩ | ⟨g, cap, cur, e, _⟩
    · exact ⟨_, _, _, e⟩
    · exact ⟨_, _, _, e⟩
  · rcases h.w.2 with ⟨e, _⟩ | ⟨g, cap, cur, e, _⟩
    · exact ⟨_, _, _, e⟩
    · exact ⟨_, _, _, e⟩
theorem Keeps.ke {base kb : Nat} {w w' : World} (h : Keeps (fun k => k = kb) w w') : Ke base kb w w' := h.mono (fun _ _ e => .inl e)
set_option maxRecDepth 100000 in
set_option maxHeartbeats 4000000 in
theorem staysB_any {w : World} {base kb : Nat} {lv wv : Value} {held : Int} {E : List Ent} (h : Bw w base kb lv wv held (E.map Ent.lv) (E.map Ent.wv)) (he : ∀ x ∈ E, x.ok w base) (hlen : E.length ≤ 4000) :
    Calls Tryz.prog 22 #[.pointer (some ⟨kb, 0, none⟩)] w fun e w' => e = .returned (.bool true) ∧ Bw w' base kb lv wv held (E.map Ent.lv) (E.map Ent.wv) ∧ Keeps (fun k => k = kb) w w' := by
  obtain ⟨a1, b1, rfl⟩ := h.lrow.form
  obtain ⟨a2, b2, rfl⟩ := h.wrow.form
  simp only [List.length_map] at h ⊢
  obtain ⟨n, hn⟩ : ∃ n, E.length = n := ⟨_, rfl⟩
  rw [hn] at h hlen ⊢
  have HB := Lib.hid h
  have HE : Hid (∀ x ∈ E, x.ok w base) := he
  clear h he
  go_enter Tryz.func22, Tryz.ntmps22
  go_wp2_with fail
  go_loopw [3] (fun i wr => ∃ j : Nat, j ≤ n ∧ i = .int .i64 (j : Int) ∧ Hid (Bw wr base kb (.slice a1 n b1) (.slice a2 n b2) held (E.map Ent.lv) (E.map Ent.wv) ∧ Keeps (fun k => k = kb) w wr)) (fun i _ => n - (intOf i).toNat)
  case atStart => exact ⟨0, by omega, rfl, HB.out, Keeps.refl _ _⟩
  case round =>
    obtain ⟨j, hj, rfl, HR⟩ := hrel
    have HB1 := Lib.hid HR.out.1
    have HK1 : Hid (Keeps (fun k => k = kb) w wr) := HR.out.2
    obtain ⟨x0, x1, x2, x3⟩ := HB1.out.cells
    clear HR
    by_cases hjn : j < n
    · have d1 : decide ((j : Int) < (n : Int)) = true := decide_eq_true (by omega)
      have ji : (j : Int) < (n : Int) := by omega
      have hw1 : IntKind.i64.wrap ((j : Int) + 1) = ((j + 1 : Nat) : Int) := by rw [IntKind.wrap_i64]; omega
      obtain ⟨g1, o1, c1', e1, hc1⟩ := HB1.out.lrow.some_of (by rw [List.length_map]; omega)
      obtain ⟨g2, o2, c2', e2, hc2⟩ := HB1.out.wrow.some_of (by rw [List.length_map]; omega)
      simp only [List.length_map, Value.slice.injEq] at e1 e2 hc1 hc2
      obtain ⟨rfl, -, rfl⟩ := e1
      rw [hn] at hc1 hc2
      obtain ⟨rfl, -, rfl⟩ := e2
      have y1 := HB1.out.lrow.cell j (by rw [List.length_map]; omega)
      have y2 := HB1.out.wrow.cell j (by rw [List.length_map]; omega)
      rw [List.getElem_map] at y1 y2
      have hok := HE.out E[j] (List.getElem_mem _)
      obtain ⟨⟨pa, pn, pc, hp⟩, qa, qn, qc, hq⟩ := Ent.slices hok
      have HOl : Hid (Own w base (.slice pa pn pc) E[j].xs) := hp ▸ hok.l
      have HOw : Hid (Own w base (.slice qa qn qc) E[j].xs) := hq ▸ hok.w
      have HSmz : Hid (∀ z ∈ E[j].xs, z < 256) := hok.sm
      rw [hp] at y1
      rw [hq] at y2
      generalize E[j].xs = exs at HOl HOw HSmz
      clear hok hp hq
      have HN : Hid (E.length = n) := hn
      clear hn
      have HSm : Hid (Calls Tryz.prog 19 #[.slice pa pn pc, .slice qa qn qc] wr.drew fun e w' => e = .returned (.bool true) ∧ (w'.cell? ⟨kb, 0, none⟩ = some (.slice (some ⟨g1, o1, none⟩) n b1) ∧ w'.cell? ⟨kb, 1, none⟩ = some (.slice (some ⟨g2, o2, none⟩) n b2) ∧ w'.cell? ⟨kb, 3, none⟩ = some (.bool false) ∧ w'.cell? ⟨g1, o1 + j, none⟩ = some (.slice pa pn pc) ∧ w'.cell? ⟨g2, o2 + j, none⟩ = some (.slice qa qn qc)) ∧ w'.frozen? ⟨kb, 3, none⟩ = false ∧ Hid (Keeps (fun _ => False) wr w') ∧ Hid ((w'.setCell ⟨kb, 3, none⟩ (.bool false)).cell? ⟨kb, 0, none⟩ = some (.slice (some ⟨g1, o1, none⟩) n b1) ∧ (w'.setCell ⟨kb, 3, none⟩ (.bool false)).cell? ⟨kb, 1, none⟩ = some (.slice (some ⟨g2, o2, none⟩) n b2) ∧ (w'.setCell ⟨kb, 3, none⟩ (.bool false)).cell? ⟨kb, 3, none⟩ = some (.bool false) ∧ (w'.setCell ⟨kb, 3, none⟩ (.bool false)).cell? ⟨g1, o1 + j, none⟩ = some (.slice pa pn pc) ∧ (w'.setCell ⟨kb, 3, none⟩ (.bool false)).cell? ⟨g2, o2 + j, none⟩ = some (.slice qa qn qc)) ∧ Hid (Bw (w'.setCell ⟨kb, 3, none⟩ (.bool false)) base kb (.slice (some ⟨g1, o1, none⟩) n b1) (.slice (some ⟨g2, o2, none⟩) n b2) held (E.map Ent.lv) (E.map Ent.wv))) := by
        refine (same_any (w := wr.drew) ((HOl.out.ke HB.out.blk (HK1.out.ke (base := base))).sl HSmz.out) ((HOw.out.ke HB.out.blk (HK1.out.ke (base := base))).sl HSmz.out)).mono ?_
        rintro e w' ⟨rfl, hb⟩
        have k : Keeps (fun _ => False) wr w' := (keeps_drew0 wr).trans (Keeps.of_below hb) (fun _ _ e => e)
        have b := HB1.out.keeps0 k
        have c : ∀ g i v, wr.cell? ⟨g, i, none⟩ = some v → w'.cell? ⟨g, i, none⟩ = some v := fun g i v hc => (World.cell?_of_block (a := ⟨g, i, none⟩) (k.block g (World.block_lt_of_cell? wr _ hc) id)).trans hc
        have b2 : Bw (w'.setCell ⟨kb, 3, none⟩ (.bool false)) base kb (.slice (some ⟨g1, o1, none⟩) n b1) (.slice (some ⟨g2, o2, none⟩) n b2) held (E.map Ent.lv) (E.map Ent.wv) := b.put rfl b.lrow b.wrow b.ne b.kb_ne
        have n1 : g1 ≠ kb := fun e => b.kb_ne.1 (by rw [← e]; rfl)
        have n2 : g2 ≠ kb := fun e => b.kb_ne.2 (by rw [← e]; rfl)
        exact ⟨rfl, ⟨b.cells.1, b.cells.2.1, b.cells.2.2.2, c _ _ _ y1, c _ _ _ y2⟩, b.thawed 3, k, ⟨b2.cells.1, b2.cells.2.1, b2.cells.2.2.2, (World.cell?_of_block (a := ⟨g1, o1 + j, none⟩) (Below.heap_setCell _ _ _ _ n1)).trans (c _ _ _ y1), (World.cell?_of_block (a := ⟨g2, o2 + j, none⟩) (Below.heap_setCell _ _ _ _ n2)).trans (c _ _ _ y2)⟩, b2⟩
      go_wp2_with fail
      go_region_held3 (fun w' => w'.cell? ⟨kb, 0, none⟩ = some (.slice (some ⟨g1, o1, none⟩) n b1) ∧ w'.cell? ⟨kb, 1, none⟩ = some (.slice (some ⟨g2, o2, none⟩) n b2) ∧ w'.cell? ⟨kb, 3, none⟩ = some (.bool false) ∧ w'.cell? ⟨g1, o1 + j, none⟩ = some (.slice pa pn pc) ∧ w'.cell? ⟨g2, o2 + j, none⟩ = some (.slice qa qn qc)) (first | (exact HZ5.out) | go_keep) (first | (go_at_call 19; refine HSm.out.mono ?_; rintro e w5 ⟨rfl, ⟨k0, k1, k3, k4, k5⟩, zf, HK5, HZ5, HB5⟩))
      all_goals
        have HF : Hid (Keeps (fun k => k = kb) w (w5.setCell ⟨kb, 3, none⟩ (.bool false))) := (HK1.out.trans HK5.out (fun _ _ e => e.elim)).trans (Keeps.setCell w5 kb 3 _) (fun _ _ e => e)
        go_wp2_with fail
        go_roundw
        case rel => exact ⟨j + 1, by omega, rfl, HB5.out, HF.out⟩
        case measure => simp [intOf]; omega
    · have d1 : decide ((j : Int) < (n : Int)) = false := decide_eq_false (by omega)
      go_wp2_with fail
      go_ret
      exact ⟨rfl, HB1.out, HK1.out⟩
end Go.Proofs.YtmfkggngjeolcaaGreatDoor
/- Book[byte].Apart. Own work. -/
namespace Go.Proofs.YtmfkggngjeolcaaGreatDoor
open Go.RowKit Go.Shelf
/-- no two of the lists lie in one block -/
def Dis (E : List Ent) : Prop := ∀ i i' (h : i < E.length) (h' : i' < E.length), i ≠ i' → ∀ g n c g' n' c', E[i].lv = .slice (some ⟨g, 0, none⟩) n c → E[i'].lv = .slice (some ⟨g', 0, none⟩) n' c' → g ≠ g'
/-- the lists ahead of i are written full, of the list i the places ahead of j -/
structure Wt (w : World) (E : List Ent) (m : Nat → Nat → Int) (i j : Nat) (wr : World) : Prop where
  keeps : Keeps (fun k => ∃ e ∈ E, e.lv.ownBlock = some k) w wr
  there : ∀ e ∈ E, ∀ g n c, e.lv = .slice (some ⟨g, 0, none⟩) n c → wr.there g 0 c
  done : ∀ i' (h : i' < E.length), i' < i → ∀ g n c, E[i'].lv = .slice (some ⟨g, 0, none⟩) n c → ∀ jj, jj < c → wr.cell? ⟨g, jj, none⟩ = some (.int .u8 (m i' jj))
  part : ∀ (h : i < E.length) g n c, E[i].lv = .slice (some ⟨g, 0, none⟩) n c → ∀ jj, jj < j → jj < c → wr.cell? ⟨g, jj, none⟩ = some (.int .u8 (m i jj))
theorem Wt.start {w w0 : World} {base : Nat} {E : List Ent} {m : Nat → Nat → Int} (he : ∀ x ∈ E, x.ok w base) (hk : Keeps (fun _ => False) w w0) : Wt w0 E m 0 0 w0 := by
  refine ⟨Keeps.refl _ _, fun e hm g n c hv => ?_, fun i' _ h => by omega, fun _ _ _ _ _ _ h => by omega⟩
  have ho := (he e hm).l.keeps hk (fun _ _ => id)
  rw [hv] at ho
  rcases ho.2 with ⟨h, _⟩ | ⟨g', cap, cur, h, hb, hg, hl, hmx, hs, ht⟩
  · simp at h
  · simp only [Value.slice.injEq, Option.some.injEq, Addr.mk.injEq, and_true] at h
    obtain ⟨rfl, -, rfl⟩ := h
    intro j hj
    refine ⟨?_, by simp [World.frozen?, hg]⟩
    rw [cell_of_row _ _ _ _ _ _ hg, Nat.zero_add, Array.getElem?_eq_getElem (by omega)]
    rfl
theorem Wt.step {w wr : World} {E : List Ent} {m : Nat → Nat → Int} {i j g n c : Nat} (h : Wt w E m i j wr) (hi : i < E.length) (e : E[i].lv = .slice (some ⟨g, 0, none⟩) n c) (hj : j < c) (hd : Dis E) : Wt w E m i (j + 1) (wr.setCell ⟨g, j, none⟩ (.int .u8 (m i j))) := by
  have hsome := (h.there E[i] (List.getElem_mem _) g n c e j hj).1
  rw [Nat.zero_add] at hsome
  obtain ⟨v0, hv0⟩ := Option.isSome_iff_exists.1 hsome
  refine ⟨h.keeps.trans (Keeps.setCell wr g j _) (fun k _ hk => ⟨E[i], List.getElem_mem _, by rw [e, hk]; rfl⟩), fun x hm g' n' c' hv => ?_, fun i' h' hlt g' n' c' hv jj hjj => ?_, fun h' g' n' c' hv jj hjj hjc => ?_⟩
  · have := World.there_setCells (h.there x hm g' n' c' hv) g j [.int .u8 (m i j)]
    exact this
  · have hne : g' ≠ g := hd i' i h' hi (by omega) g' n' c' g n c hv e
    exact (World.cell?_of_block (a := ⟨g', jj, none⟩) (Below.heap_setCell _ _ _ _ hne)).trans (h.done i' h' hlt g' n' c' hv jj hjj)
  · rw [e] at hv
    simp only [Value.slice.injEq, Option.some.injEq, Addr.mk.injEq, and_true] at hv
    obtain ⟨rfl, -, rfl⟩ := hv
    by_cases hq : jj = j
    · subst hq
      exact World.cell?_setCell_same _ _ _ hv0
    · rw [World.cell?_setCell_other _ _ _ _ (fun e => hq (by simp only [Addr.mk.injEq, and_true, true_and] at e; exact e.symm))]
      exact h.part h' _ _ _ e jj (by omega) hjc
theorem Wt.drew {w wr : World} {E : List Ent} {m : Nat → Nat → Int} {i j : Nat} (h : Wt w E m i j wr) : Wt w E m i j wr.drew := ⟨h.keeps.drew, h.there, h.done, h.part⟩
theorem Wt.next {w wr : World} {E : List Ent} {m : Nat → Nat → Int} {i j : Nat} (h : Wt w E m i j wr) (hc : ∀ (hi : i < E.length) g n c, E[i].lv = .slice (some ⟨g, 0, none⟩) n c → c ≤ j) : Wt w E m (i + 1) 0 wr := by
  refine ⟨h.keeps, h.there, fun i' h' hlt g n c hv jj hjj => ?_, fun _ _ _ _ _ _ h => by omega⟩
  by_cases hq : i' = i
  · subst hq
    exact h.part h' g n c hv jj (Nat.lt_of_lt_of_le hjj (hc h' g n c hv)) hjj
  · exact h.done i' h' (by omega) g n c hv jj hjj
/-- the book stands where its lists are written -/
theorem Bw.wt {w wr : World} {base kb : Nat} {lv wv : Value} {held : Int} {E : List Ent} {m : Nat → Nat → Int} {i j : Nat} (h : Bw w base kb lv wv held (E.map Ent.lv) (E.map Ent.wv)) (he : ∀ x ∈ E, x.ok w base) (k : Wt w E m i j wr) : Bw wr base kb lv wv held (E.map Ent.lv) (E.map Ent.wv) := by
  have tg : ∀ q, (∃ e ∈ E, e.lv.ownBlock = some q) → ∃ cur, w.heap[q]? = some (.cells cur 5 (0, 0)) := fun q ⟨e, hm, hq⟩ => (he e hm).l.tagB q hq
  refine ⟨(k.keeps.block kb h.lt (fun hs => ?_)).trans h.blk, h.lrow.keeps k.keeps (fun q hq hs => ?_), h.wrow.keeps k.keeps (fun q hq hs => ?_), h.ne⟩
  · obtain ⟨c, hc⟩ := tg _ hs
    rw [h.blk] at hc
    simp at hc
  · obtain ⟨c, hc⟩ := tg _ hs
    obtain ⟨d, hd⟩ := h.lrow.tag q hq
    rw [hd] at hc
    simp at hc
  · obtain ⟨c, hc⟩ := tg _ hs
    obtain ⟨d, hd⟩ := h.wrow.tag q hq
    rw [hd] at hc
    simp at hc
set_option maxRecDepth 100000 in
set_option maxHeartbeats 4000000 in
theorem apartB_any {w : World} {base kb fm : Nat} {lv wv : Value} {held : Int} {E : List Ent} {m : Nat → Nat → Int} (h : Bw w base kb lv wv held (E.map Ent.lv) (E.map Ent.wv)) (he : ∀ x ∈ E, x.ok w base) (hlen : E.length ≤ 4000) (hd : Dis E) (hen : Enters Tryz.prog fm)
    (hm : ∀ (i j : Nat) (w : World), i ≤ 4000 → j < maxLen → Calls Tryz.prog fm #[.int .i64 (i : Int), .int .i64 (j : Int)] w fun e w' => e = .returned (.int .u8 (m i j)) ∧ w' = w) :
    Calls Tryz.prog 8 #[.pointer (some ⟨kb, 0, none⟩), .func (.func fm) #[] #[]] w fun e w' => e = .returned (.bool true) ∧ Keeps (fun k => k = kb ∨ ∃ e ∈ E, e.lv.ownBlock = some k) w w' := by
  have HSt := Lib.hid (staysB_any h he hlen)
  have HE : Hid (∀ x ∈ E, x.ok w base) := he
  have HBw := Lib.hid h
  have HD : Hid (Dis E) := hd
  have HM : Hid (∀ (i j : Nat) (w : World), i ≤ 4000 → j < maxLen → Calls Tryz.prog fm #[.int .i64 (i : Int), .int .i64 (j : Int)] w fun e w' => e = .returned (.int .u8 (m i j)) ∧ w' = w) := hm
  have he' : ∀ (args : Array Value) (w : World), (callFunc fm args).run Tryz.prog w = .ok (.enter fm args) w := hen
  clear h he hd hm
  go_enter Tryz.func8, Tryz.ntmps8
  go_wp2_with fail
  refine HSt.out.mono ?_
  rintro e w1 ⟨rfl, hb1, hk1⟩
  obtain ⟨a1, b1, rfl⟩ := hb1.lrow.form
  obtain ⟨a2, b2, rfl⟩ := hb1.wrow.form
  simp only [List.length_map] at hb1
  obtain ⟨n, hn⟩ : ∃ n, E.length = n := ⟨_, rfl⟩
  rw [hn] at hb1 hlen
  have HN : Hid (E.length = n) := hn
  have HB1 := Lib.hid hb1
  have HK1 : Hid (Keeps (fun k => k = kb) w w1) := hk1
  have HE1 : Hid (∀ x ∈ E, x.ok w1 base) := fun x hx => by
    have := HE.out x hx
    exact ⟨this.l.ke HBw.out.blk (hk1.ke (base := base)), this.w.ke HBw.out.blk (hk1.ke (base := base)), this.sm⟩
  have HF : Hid (∀ (i : Nat), i < n → ∃ pa pn pc, (E.map Ent.lv)[i]? = some (.slice pa pn pc) ∧ ((pa = none ∧ pn = 0 ∧ pc = 0 ∧ ∀ h : i < E.length, E[i].lv = .slice none 0 0) ∨ ∃ g, pa = some ⟨g, 0, none⟩ ∧ ∃ h : i < E.length, E[i].lv = .slice (some ⟨g, 0, none⟩) pn pc ∧ pn ≤ pc ∧ pc ≤ maxLen)) := fun i hi => by
    have hi' : i < E.length := by rw [HN.out]; exact hi
    rw [List.getElem?_map, List.getElem?_eq_getElem hi']
    rcases (HE1.out E[i] (List.getElem_mem _)).l.2 with ⟨e, _⟩ | ⟨g, cap, cur, e, hb, hg, h1, h2, _⟩
    · exact ⟨none, 0, 0, by rw [← e]; rfl, .inl ⟨rfl, rfl, rfl, fun _ => e⟩⟩
    · exact ⟨some ⟨g, 0, none⟩, _, cap, by rw [← e]; rfl, .inr ⟨g, rfl, hi', e, h1, h2⟩⟩
  clear hb1 hk1 hn HSt
  go_wp2_with fail
  go_loopw [5] (fun i wr => ∃ j : Nat, j ≤ n ∧ i = .int .i64 (j : Int) ∧ Hid (Wt w1 E m j 0 wr)) (fun i _ => n - (intOf i).toNat)
  case atStart => exact ⟨0, by omega, rfl, Wt.start HE1.out (Keeps.refl _ _)⟩
  case round =>
    obtain ⟨i, hi, rfl, HW⟩ := hrel
    have HB2 : Hid (Bw wr base kb (.slice a1 n b1) (.slice a2 n b2) held (E.map Ent.lv) (E.map Ent.wv)) := HB1.out.wt HE1.out HW.out
    obtain ⟨x0, x1, x2, x3⟩ := HB2.out.cells
    by_cases hin : i < n
    · have d1 : decide ((i : Int) < (n : Int)) = true := decide_eq_true (by omega)
      have ji : (i : Int) < (n : Int) := by omega
      have hw1 : IntKind.i64.wrap ((i : Int) + 1) = ((i + 1 : Nat) : Int) := by rw [IntKind.wrap_i64]; omega
      obtain ⟨g1, o1, c1', e1, hc1⟩ := HB2.out.lrow.some_of (by rw [List.length_map, HN.out]; omega)
      simp only [List.length_map, Value.slice.injEq] at e1
      obtain ⟨rfl, -, rfl⟩ := e1
      have y1 := HB2.out.lrow.cell i (by rw [List.length_map, HN.out]; omega)
      obtain ⟨pa, pn, pc, hgt, hform⟩ := HF.out i hin
      rw [List.getElem?_eq_getElem (by rw [List.length_map, HN.out]; omega)] at hgt
      rw [Option.some.inj hgt] at y1
      have HFm := Lib.hid hform
      clear hgt hc1
      go_upto_region 6 with fail
      go_cut [6] (fun y wx => y = .slice pa pc pc ∧ wx = wr.drew)
      case first =>
        rcases hform with ⟨rfl, rfl, rfl, -⟩ | ⟨g, rfl, _, _, hp1, hp2⟩
        · go_region_held3 (fun w' => w'.cell? ⟨kb, 0, none⟩ = some (.slice (some ⟨g1, o1, none⟩) n b1) ∧ w'.cell? ⟨g1, o1 + i, none⟩ = some (.slice none 0 0)) (go_keep) (fail)
          all_goals
            go_wp2_with fail
            go_meet
            exact ⟨rfl, rfl⟩
        · go_region_held3 (fun w' => w'.cell? ⟨kb, 0, none⟩ = some (.slice (some ⟨g1, o1, none⟩) n b1) ∧ w'.cell? ⟨g1, o1 + i, none⟩ = some (.slice (some ⟨g, 0, none⟩) pn pc)) (go_keep) (fail)
          all_goals
            go_wp2_with fail
            go_meet
            exact ⟨rfl, rfl⟩
      case rest =>
        obtain ⟨rfl, hw⟩ := hcut
        subst hw
        clear hform
        go_wp2_with fail
        go_loopw [7] (fun jv wq => ∃ jj : Nat, jj ≤ pc ∧ jv = .int .i64 (jj : Int) ∧ Hid (Wt w1 E m i jj wq)) (fun jv _ => pc - (intOf jv).toNat)
        case atStart => exact ⟨0, by omega, rfl, HW.out.drew⟩
        case round =>
          obtain ⟨jj, hjj, rfl, HQ⟩ := hrel
          by_cases hq : jj < pc
          · rcases HFm.out with ⟨_, _, h0, _⟩ | ⟨g, rfl, hi', hv, hp1, hp2⟩
            · omega
            · have d2 : decide ((jj : Int) < (pc : Int)) = true := decide_eq_true (by omega)
              have jji : (jj : Int) < (pc : Int) := by omega
              have hmx : pc ≤ 9223372036854775807 := by unfold maxLen at hp2; omega
              have hw2 : IntKind.i64.wrap ((jj : Int) + 1) = ((jj + 1 : Nat) : Int) := by rw [IntKind.wrap_i64]; omega
              obtain ⟨hs0, z0⟩ := HQ.out.there E[i] (List.getElem_mem _) g pn pc hv jj hq
              rw [Nat.zero_add] at hs0 z0
              obtain ⟨v0, hv0⟩ := Option.isSome_iff_exists.1 hs0
              have HQ2 := Lib.hid (HQ.out.step hi' hv hq HD.out)
              have HMc := Lib.hid (HM.out i jj wr (by omega) (by unfold maxLen; omega))
              clear hs0 hv hi' hp2 HQ
              go_wp2_with fail
              refine HMc.out.mono ?_
              rintro e w9 ⟨rfl, hw9⟩
              subst hw9
              go_wp2_with fail
              go_roundw
              case rel => exact ⟨jj + 1, by omega, rfl, HQ2⟩
              case measure => simp [intOf]; omega
          · have d2 : decide ((jj : Int) < (pc : Int)) = false := decide_eq_false (by omega)
            obtain rfl : jj = pc := by omega
            have HQ2 : Hid (Wt w1 E m (i + 1) 0 wr) := HQ.out.next (fun hi' g n c hv => by
              rcases HFm.out with ⟨_, _, _, hv'⟩ | ⟨g', _, _, hv', _⟩
              · rw [hv' hi'] at hv
                simp at hv
              · rw [hv'] at hv
                simp only [Value.slice.injEq] at hv
                omega)
            go_wp2_with fail
            go_roundw
            case rel => exact ⟨i + 1, by omega, rfl, HQ2⟩
            case measure => simp [intOf]; omega
    · have d1 : decide ((i : Int) < (n : Int)) = false := decide_eq_false (by omega)
      obtain rfl : i = n := by omega
      clear hin
      go_wp2_with fail
      clear d1 x0 x1 x2 x3 HB2
      go_loopw [8] (fun k wr2 => ∃ j : Nat, j ≤ i ∧ k = .int .i64 (j : Int) ∧ Hid (Wt w1 E m i 0 wr2)) (fun k _ => i - (intOf k).toNat)
      case atStart => exact ⟨0, by omega, rfl, HW⟩
      case round =>
        obtain ⟨q, hq, rfl, HW2⟩ := hrel
        have HB2 : Hid (Bw wr base kb (.slice a1 i b1) (.slice a2 i b2) held (E.map Ent.lv) (E.map Ent.wv)) := HB1.out.wt HE1.out HW2.out
        obtain ⟨x0, x1, x2, x3⟩ := HB2.out.cells
        by_cases hin : q < i
        · have d1 : decide ((q : Int) < (i : Int)) = true := decide_eq_true (by omega)
          have ji : (q : Int) < (i : Int) := by omega
          have hw1 : IntKind.i64.wrap ((q : Int) + 1) = ((q + 1 : Nat) : Int) := by rw [IntKind.wrap_i64]; omega
          obtain ⟨g1, o1, c1', e1, hc1⟩ := HB2.out.lrow.some_of (by rw [List.length_map, HN.out]; omega)
          simp only [List.length_map, Value.slice.injEq] at e1
          obtain ⟨rfl, -, rfl⟩ := e1
          have y1 := HB2.out.lrow.cell q (by rw [List.length_map, HN.out]; omega)
          obtain ⟨pa, pn, pc, hgt, hform⟩ := HF.out q hin
          rw [List.getElem?_eq_getElem (by rw [List.length_map, HN.out]; omega)] at hgt
          rw [Option.some.inj hgt] at y1
          have HFm := Lib.hid hform
          clear hgt hc1
          go_upto_region 14 with fail
          go_cut [9] (fun y wx => y = .slice pa pc pc ∧ wx = wr.drew)
          case first =>
            rcases hform with ⟨rfl, rfl, rfl, -⟩ | ⟨g, rfl, _, _, hp1, hp2⟩
            · go_region_held3 (fun w' => w'.cell? ⟨kb, 0, none⟩ = some (.slice (some ⟨g1, o1, none⟩) i b1) ∧ w'.cell? ⟨g1, o1 + q, none⟩ = some (.slice none 0 0)) (go_keep) (fail)
              all_goals
                go_wp2_with fail
                go_meet
                exact ⟨rfl, rfl⟩
            · go_region_held3 (fun w' => w'.cell? ⟨kb, 0, none⟩ = some (.slice (some ⟨g1, o1, none⟩) i b1) ∧ w'.cell? ⟨g1, o1 + q, none⟩ = some (.slice (some ⟨g, 0, none⟩) pn pc)) (go_keep) (fail)
              all_goals
                go_wp2_with fail
                go_meet
                exact ⟨rfl, rfl⟩
          case rest =>
            obtain ⟨rfl, hw⟩ := hcut
            subst hw
            clear hform
            go_wp2_with fail
            go_loopw [10] (fun jv wq => ∃ jj : Nat, jj ≤ pc ∧ jv = .int .i64 (jj : Int) ∧ Hid (Wt w1 E m i 0 wq)) (fun jv _ => pc - (intOf jv).toNat)
            case atStart => exact ⟨0, by omega, rfl, HW2.out.drew⟩
            case round =>
              obtain ⟨jj, hjj, rfl, HQ⟩ := hrel
              by_cases hq2 : jj < pc
              · rcases HFm.out with ⟨_, _, h0, _⟩ | ⟨g, rfl, hi', hv, hp1, hp2⟩
                · omega
                · have d2 : decide ((jj : Int) < (pc : Int)) = true := decide_eq_true (by omega)
                  have jji : (jj : Int) < (pc : Int) := by omega
                  have hmx : pc ≤ 9223372036854775807 := by unfold maxLen at hp2; omega
                  have hw2 : IntKind.i64.wrap ((jj : Int) + 1) = ((jj + 1 : Nat) : Int) := by rw [IntKind.wrap_i64]; omega
                  have hv0 := HQ.out.done q hi' hin g pn pc hv jj hq2
                  have HMc := Lib.hid (HM.out q jj wr.drew (by omega) (by unfold maxLen; omega))
                  clear hv hi' hp2
                  go_wp2_with fail
                  go_region_held3 (fun w' => w'.cell? ⟨g, jj, none⟩ = some (.int .u8 (m q jj))) (go_keep) (first | (refine HMc.out.mono ?_; rintro e w9 ⟨rfl, hw9⟩; subst hw9))
                  all_goals
                    go_wp2_with fail
                    go_roundw
                    case rel => exact ⟨jj + 1, by omega, rfl, HQ.out.drew⟩
                    case measure => simp [intOf]; omega
              · have d2 : decide ((jj : Int) < (pc : Int)) = false := decide_eq_false (by omega)
                go_wp2_with fail
                go_roundw
                case rel => exact ⟨q + 1, by omega, rfl, HQ⟩
                case measure => simp [intOf]; omega
        · have d1 : decide ((q : Int) < (i : Int)) = false := decide_eq_false (by omega)
          have z0 := HB2.out.thawed 0
          have z1 := HB2.out.thawed 1
          have z2 := HB2.out.thawed 2
          go_wp2_with fail
          go_ret
          refine ⟨rfl, ?_⟩
          have k1 : Keeps (fun k => k = kb ∨ ∃ e ∈ E, e.lv.ownBlock = some k) w wr := (HK1.out.mono (fun _ _ e => .inl e)).trans HW2.out.keeps (fun _ _ e => .inr e)
          exact ((k1.trans (Keeps.setCell _ _ _ _) (fun _ _ e => .inl e)).trans (Keeps.setCell _ _ _ _) (fun _ _ e => .inl e)).trans (Keeps.setCell _ _ _ _) (fun _ _ e => .inl e)
end Go.Proofs.YtmfkggngjeolcaaGreatDoor
/- The marks of bytes; a book of bytes, as a law sees it. Own work. -/
namespace Go.Proofs.YtmfkggngjeolcaaGreatDoor
open Go.RowKit Go.Shelf
/-- the mark of the place j of the list i -/
def markB (i j : Nat) : Int := ((i : Int) + 1) / 2 ^ (8 * (j % 3)) % 256
set_option maxRecDepth 100000 in
set_option maxHeartbeats 4000000 in
theorem bytesMark_any (i j : Nat) (w : World) (_hi : i ≤ 4000) (_hj : j < maxLen) :
    Calls Tryz.prog 9 #[.int .i64 (i : Int), .int .i64 (j : Int)] w fun e w' => e = .returned (.int .u8 (markB i j)) ∧ w' = w := by
  go_enter Tryz.func9, Tryz.ntmps9
  go_wp2_with fail
  go_ret
  exact ⟨rfl, rfl⟩
theorem mem_blks {E : List Ent} {k : Nat} : k ∈ blks E ↔ ∃ x ∈ E, x.lv.ownBlock = some k ∨ x.wv.ownBlock = some k := by
  simp [blks, Ent.bl, List.mem_flatMap, Option.mem_toList]
theorem Bk.bw {w : World} {base kb : Nat} {lv wv : Value} {held : Int} {E : List Ent} (h : Bk w base kb lv wv held E) : Bw w base kb lv wv held (E.map Ent.lv) (E.map Ent.wv) := ⟨h.blk, h.lrow, h.wrow, h.ne⟩
theorem blks_lt {w : World} {base : Nat} {E : List Ent} (he : ∀ x ∈ E, x.ok w base) : ∀ k ∈ blks E, k < w.heap.size := fun k hk => by
  obtain ⟨x, hx, h | h⟩ := mem_blks.1 hk
  · exact ((he x hx).l.lt k h).2
  · exact ((he x hx).w.lt k h).2
theorem bk_new {w : World} {base kb : Nat} (h : w.heap[kb]? = some (.cells #[.slice none 0 0, .slice none 0 0, .int .i64 0, .bool false] 37 (0, 0))) : Bk w base kb (.slice none 0 0) (.slice none 0 0) 0 [] :=
  ⟨h, RowV.nil _ _ _, RowV.nil _ _ _, fun _ e => (by cases e), fun _ h => (by cases h), List.nodup_nil⟩
theorem blks_append (E F : List Ent) : blks (E ++ F) = blks E ++ blks F := by simp [blks]
theorem bk_keep {w : World} {base kb : Nat} {lv wv : Value} {held : Int} {E : List Ent} {la : Option Addr} {ln lc : Nat} {xs : List Nat} (h : Bk w base kb lv wv held E) (hl : Own w base (.slice la ln lc) xs) (hxs : xs.length ≤ 140737488351232) (hsm : ∀ z ∈ xs, z < 256) (hlen : E.length ≤ 4000) (hbase : base ≤ w.heap.size) (hf : ∀ k, (Value.slice la ln lc).ownBlock = some k → k ∉ blks E) :
    Calls Tryz.prog 21 #[.pointer (some ⟨kb, 0, none⟩), .slice la ln lc] w fun e w' => e = .returned (.tuple #[]) ∧ ∃ lv' wv' held' E', Bk w' base kb lv' wv' held' E' ∧ E'.length ≤ 4000 ∧ (∀ k ∈ blks E', k ∈ blks E ∨ (Value.slice la ln lc).ownBlock = some k ∨ w.heap.size ≤ k) ∧ Ke base kb w w' := by
  refine (keepB_any h.bw h.ents hl hxs hsm hlen hbase).mono ?_
  rintro e w' ⟨rfl, cv, hcv, E', hk, hl'⟩
  obtain ⟨lv', wv', held', hb⟩ := hk.bw
  have hsub : (blks E').Sublist (blks (E ++ [⟨.slice la ln lc, cv, xs⟩])) := by
    obtain ⟨t, ht⟩ := hk.suf
    rw [← ht, blks_append]
    exact List.sublist_append_right _ _
  have hbl : blks (E ++ [⟨.slice la ln lc, cv, xs⟩]) = blks E ++ ((Value.slice la ln lc).ownBlock.toList ++ cv.ownBlock.toList) := by rw [blks_append]; simp [blks, Ent.bl]
  have hlt := blks_lt h.ents
  have hnd : (blks (E ++ [⟨.slice la ln lc, cv, xs⟩])).Nodup := by
    rw [hbl]
    refine List.nodup_append.2 ⟨h.nodup, List.nodup_append.2 ⟨?_, ?_, fun a ha b hb e => ?_⟩, fun a ha b hb e => ?_⟩
    · cases (Value.slice la ln lc).ownBlock <;> simp
    · cases cv.ownBlock <;> simp
    · subst e
      have h1 := (hl.lt a (by simpa using ha)).2
      have h2 := hcv a (by simpa using hb)
      omega
    · subst e
      rcases List.mem_append.1 hb with hb | hb
      · exact hf a (by simpa using hb) ha
      · have h1 := hlt a ha
        have h2 := hcv a (by simpa using hb)
        omega
  refine ⟨rfl, lv', wv', held', E', ⟨hb.blk, hb.lrow, hb.wrow, hb.ne, hk.ents, hnd.sublist hsub⟩, hl', fun k hk' => ?_, hk.ke⟩
  have := hsub.subset hk'
  rw [hbl] at this
  rcases List.mem_append.1 this with h1 | h1
  · exact .inl h1
  · rcases List.mem_append.1 h1 with h1 | h1
    · exact .inr (.inl (by simpa using h1))
    · exact .inr (.inr (hcv k (by simpa using h1)))
theorem dis_of {E : List Ent} (h : (blks E).Nodup) : Dis E := by
  intro i i' hi hi' hne g n c g' n' c' e e' hg
  subst hg
  have key : ∀ (E : List Ent), (blks E).Nodup → ∀ i i' (hi : i < E.length) (hi' : i' < E.length), i < i' → E[i].lv.ownBlock = some g → E[i'].lv.ownBlock = some g → False := by
    intro E
    induction E with
    | nil => intro _ i _ hi; simp at hi
    | cons x xs ih =>
      intro hnd i i' hi hi' hlt h1 h2
      have hc : blks (x :: xs) = x.bl ++ blks xs := by simp [blks]
      rw [hc] at hnd
      obtain ⟨_, n2, n3⟩ := List.nodup_append.1 hnd
      cases i' with
      | zero => omega
      | succ k' =>
        have hk' : k' < xs.length := by simpa using hi'
        simp only [List.getElem_cons_succ] at h2
        cases i with
        | zero =>
          simp only [List.getElem_cons_zero] at h1
          refine n3 g ?_ g ?_ rfl
          · simp [Ent.bl, h1]
          · exact mem_blks.2 ⟨xs[k'], List.getElem_mem _, .inl h2⟩
        | succ k =>
          simp only [List.getElem_cons_succ] at h1
          exact ih n2 k k' (by simpa using hi) (by simpa using hi') (by omega) h1 h2
  have b1 : E[i].lv.ownBlock = some g := by rw [e]; rfl
  have b2 : E[i'].lv.ownBlock = some g := by rw [e']; rfl
  rcases Nat.lt_or_gt_of_ne hne with hlt | hlt
  · exact key E h i i' hi hi' hlt b1 b2
  · exact key E h i' i hi' hi hlt b2 b1
theorem bk_apart {w : World} {base kb : Nat} {lv wv : Value} {held : Int} {E : List Ent} (h : Bk w base kb lv wv held E) (hlen : E.length ≤ 4000) :
    Calls Tryz.prog 8 #[.pointer (some ⟨kb, 0, none⟩), .func (.func 9) #[] #[]] w fun e w' => e = .returned (.bool true) ∧ Keeps (fun k => k = kb ∨ ∃ e ∈ E, e.lv.ownBlock = some k) w w' :=
  apartB_any h.bw h.ents hlen (dis_of h.nodup) (enters_of Tryz.func9 (by kernel_rfl) rfl) (fun i j w hi hj => bytesMark_any i j w hi hj)
end Go.Proofs.YtmfkggngjeolcaaGreatDoor
