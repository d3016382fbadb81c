import Derived.Test.YtgjamnhepbblhaaPk13
/- Book[bulkhead/api.Leaf].Stays. Own work. -/
namespace Go.Proofs.Ytgjamnhepbblhaa
open Go.RowKit Wk
set_option linter.unusedVariables false
theorem EntL.slices {w : World} {base : Nat} {x : EntL} (h : x.ok w base) : (∃ a n c, x.lv = .slice a n c) ∧ ∃ a n c, x.wv = .slice a n c := by
  refine ⟨?_, ?_⟩
  · rcases h.l.2 with ⟨e, _⟩ | ⟨g, cap, cur, e, _⟩
    · exact ⟨_, _, _, e⟩
    · exact ⟨_, _, _, e⟩
  · rcases h.w.2 with ⟨e, _⟩ | ⟨g, cap, cur, e, _⟩
    · exact ⟨_, _, _, e⟩
    · exact ⟨_, _, _, e⟩
theorem Keeps.keL {base kb : Nat} {w w' : World} (h : Keeps (fun k => k = kb) w w') : KeL base kb w w' := h.mono (fun _ _ e => .inl e)
set_option maxRecDepth 100000 in
set_option maxHeartbeats 4000000 in
theorem staysL_any {w : World} {base kb : Nat} {lv wv : Value} {held : Int} {E : List EntL} (h : BwL w base kb lv wv held (E.map EntL.lv) (E.map EntL.wv)) (he : ∀ x ∈ E, x.ok w base) (hlen : E.length ≤ 4000) :
    Calls Try.prog 27 #[.pointer (some ⟨kb, 0, none⟩)] w fun e w' => e = .returned (.bool true) ∧ BwL w' base kb lv wv held (E.map EntL.lv) (E.map EntL.wv) ∧ Keeps (fun k => k = kb) w w' := by
  obtain ⟨a1, b1, rfl⟩ := h.lrow.form
  obtain ⟨a2, b2, rfl⟩ := h.wrow.form
  simp only [List.length_map] at h ⊢
  obtain ⟨n, hn⟩ : ∃ n, E.length = n := ⟨_, rfl⟩
  rw [hn] at h hlen ⊢
  have HB := Lib.hid h
  have HE : Hid (∀ x ∈ E, x.ok w base) := he
  clear h he
  go_enter Try.func27, Try.ntmps27
  go_wp2_with fail
  go_loopw [3] (fun i wr => ∃ j : Nat, j ≤ n ∧ i = .int .i64 (j : Int) ∧ Hid (BwL wr base kb (.slice a1 n b1) (.slice a2 n b2) held (E.map EntL.lv) (E.map EntL.wv) ∧ Keeps (fun k => k = kb) w wr)) (fun i _ => n - (intOf i).toNat)
  case atStart => exact ⟨0, by omega, rfl, HB.out, Keeps.refl _ _⟩
  case round =>
    obtain ⟨j, hj, rfl, HR⟩ := hrel
    have HB1 := Lib.hid HR.out.1
    have HK1 : Hid (Keeps (fun k => k = kb) w wr) := HR.out.2
    obtain ⟨x0, x1, x2, x3⟩ := HB1.out.cells
    clear HR
    by_cases hjn : j < n
    · have d1 : decide ((j : Int) < (n : Int)) = true := decide_eq_true (by omega)
      have ji : (j : Int) < (n : Int) := by omega
      have hw1 : IntKind.i64.wrap ((j : Int) + 1) = ((j + 1 : Nat) : Int) := by rw [IntKind.wrap_i64]; omega
      obtain ⟨g1, o1, c1', e1, hc1⟩ := HB1.out.lrow.some_of (by rw [List.length_map]; omega)
      obtain ⟨g2, o2, c2', e2, hc2⟩ := HB1.out.wrow.some_of (by rw [List.length_map]; omega)
      simp only [List.length_map, Value.slice.injEq] at e1 e2 hc1 hc2
      obtain ⟨rfl, -, rfl⟩ := e1
      rw [hn] at hc1 hc2
      obtain ⟨rfl, -, rfl⟩ := e2
      have y1 := HB1.out.lrow.cell j (by rw [List.length_map]; omega)
      have y2 := HB1.out.wrow.cell j (by rw [List.length_map]; omega)
      rw [List.getElem_map] at y1 y2
      have hok := HE.out E[j] (List.getElem_mem _)
      obtain ⟨⟨pa, pn, pc, hp⟩, qa, qn, qc, hq⟩ := EntL.slices hok
      have HOl : Hid (OwnL w base (.slice pa pn pc) E[j].xs) := hp ▸ hok.l
      have HOw : Hid (OwnL w base (.slice qa qn qc) E[j].xs) := hq ▸ hok.w
      have HSmz : Hid (SmL E[j].xs) := hok.sm
      rw [hp] at y1
      rw [hq] at y2
      generalize E[j].xs = exs at HOl HOw HSmz
      clear hok hp hq
      have HN : Hid (E.length = n) := hn
      clear hn
      have HSm : Hid (Calls Try.prog 20 #[.slice pa pn pc, .slice qa qn qc] wr.drew fun e w' => e = .returned (.bool true) ∧ (w'.cell? ⟨kb, 0, none⟩ = some (.slice (some ⟨g1, o1, none⟩) n b1) ∧ w'.cell? ⟨kb, 1, none⟩ = some (.slice (some ⟨g2, o2, none⟩) n b2) ∧ w'.cell? ⟨kb, 3, none⟩ = some (.bool false) ∧ w'.cell? ⟨g1, o1 + j, none⟩ = some (.slice pa pn pc) ∧ w'.cell? ⟨g2, o2 + j, none⟩ = some (.slice qa qn qc)) ∧ w'.frozen? ⟨kb, 3, none⟩ = false ∧ Hid (Keeps (fun _ => False) wr w') ∧ Hid ((w'.setCell ⟨kb, 3, none⟩ (.bool false)).cell? ⟨kb, 0, none⟩ = some (.slice (some ⟨g1, o1, none⟩) n b1) ∧ (w'.setCell ⟨kb, 3, none⟩ (.bool false)).cell? ⟨kb, 1, none⟩ = some (.slice (some ⟨g2, o2, none⟩) n b2) ∧ (w'.setCell ⟨kb, 3, none⟩ (.bool false)).cell? ⟨kb, 3, none⟩ = some (.bool false) ∧ (w'.setCell ⟨kb, 3, none⟩ (.bool false)).cell? ⟨g1, o1 + j, none⟩ = some (.slice pa pn pc) ∧ (w'.setCell ⟨kb, 3, none⟩ (.bool false)).cell? ⟨g2, o2 + j, none⟩ = some (.slice qa qn qc)) ∧ Hid (BwL (w'.setCell ⟨kb, 3, none⟩ (.bool false)) base kb (.slice (some ⟨g1, o1, none⟩) n b1) (.slice (some ⟨g2, o2, none⟩) n b2) held (E.map EntL.lv) (E.map EntL.wv))) := by
        refine (sameL_any (w := wr.drew) (HOl.out.ke HB.out.blk (HK1.out.keL (base := base)).drew) (HOw.out.ke HB.out.blk (HK1.out.keL (base := base)).drew) HSmz.out).mono ?_
        rintro e w' ⟨rfl, hb⟩
        have k : Keeps (fun _ => False) wr w' := (keeps_drew0 wr).trans (Keeps.of_below hb) (fun _ _ e => e)
        have b := HB1.out.keeps0 k
        have c : ∀ g i v, wr.cell? ⟨g, i, none⟩ = some v → w'.cell? ⟨g, i, none⟩ = some v := fun g i v hc => (World.cell?_of_block (a := ⟨g, i, none⟩) (k.block g (World.block_lt_of_cell? wr _ hc) id)).trans hc
        have b2 : BwL (w'.setCell ⟨kb, 3, none⟩ (.bool false)) base kb (.slice (some ⟨g1, o1, none⟩) n b1) (.slice (some ⟨g2, o2, none⟩) n b2) held (E.map EntL.lv) (E.map EntL.wv) := b.put rfl b.lrow b.wrow b.ne b.kb_ne
        have n1 : g1 ≠ kb := fun e => b.kb_ne.1 (by rw [← e]; rfl)
        have n2 : g2 ≠ kb := fun e => b.kb_ne.2 (by rw [← e]; rfl)
        exact ⟨rfl, ⟨b.cells.1, b.cells.2.1, b.cells.2.2.2, c _ _ _ y1, c _ _ _ y2⟩, b.thawed 3, k, ⟨b2.cells.1, b2.cells.2.1, b2.cells.2.2.2, (World.cell?_of_block (a := ⟨g1, o1 + j, none⟩) (Below.heap_setCell _ _ _ _ n1)).trans (c _ _ _ y1), (World.cell?_of_block (a := ⟨g2, o2 + j, none⟩) (Below.heap_setCell _ _ _ _ n2)).trans (c _ _ _ y2)⟩, b2⟩
      go_wp2_with fail
      go_region_held3 (fun w' => w'.cell? ⟨kb, 0, none⟩ = some (.slice (some ⟨g1, o1, none⟩) n b1) ∧ w'.cell? ⟨kb, 1, none⟩ = some (.slice (some ⟨g2, o2, none⟩) n b2) ∧ w'.cell? ⟨kb, 3, none⟩ = some (.bool false) ∧ w'.cell? ⟨g1, o1 + j, none⟩ = some (.slice pa pn pc) ∧ w'.cell? ⟨g2, o2 + j, none⟩ = some (.slice qa qn qc)) (first | (exact HZ5.out) | go_keep) (first | (go_at_call 20; refine HSm.out.mono ?_; rintro e w5 ⟨rfl, ⟨k0, k1, k3, k4, k5⟩, zf, HK5, HZ5, HB5⟩))
      all_goals
        have HF : Hid (Keeps (fun k => k = kb) w (w5.setCell ⟨kb, 3, none⟩ (.bool false))) := (HK1.out.trans HK5.out (fun _ _ e => e.elim)).trans (Keeps.setCell w5 kb 3 _) (fun _ _ e => e)
        go_wp2_with fail
        go_roundw
        case rel => exact ⟨j + 1, by omega, rfl, HB5.out, HF.out⟩
        case measure => simp [intOf]; omega
    · have d1 : decide ((j : Int) < (n : Int)) = false := decide_eq_false (by omega)
      go_wp2_with fail
      go_ret
      exact ⟨rfl, HB1.out, HK1.out⟩
end Go.Proofs.Ytgjamnhepbblhaa
