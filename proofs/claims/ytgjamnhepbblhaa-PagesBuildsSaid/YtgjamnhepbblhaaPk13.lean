import Derived.Test.YtgjamnhepbblhaaPk12
import Derived.Lib.Hide
import Derived.Deep.DeepCutAuto
import Derived.Deep.CutBlock
/- Books of leaves: Keep (written by parts/gen_bkt.py off BkKeep). Own work. -/
namespace Go.Proofs.Ytgjamnhepbblhaa
open Go.RowKit Wk
set_option linter.unusedVariables false
theorem BwL.appL {w W0 w1 : World} {base kb : Nat} {lv wv V1 : Value} {held : Int} {Ls Ws Ls' : List Value} (h : BwL w base kb lv wv held Ls Ws) (k0 : Keeps (fun _ => False) w W0) (hg : W0.grownBy w1 lv.ownBlock) (hr : RowV w1 base 22 V1 Ls') (loc : V1.ownBlock = lv.ownBlock ∨ ∃ k, V1.ownBlock = some k ∧ W0.heap.size ≤ k) :
    BwL (w1.setCell ⟨kb, 0, none⟩ V1) base kb V1 wv held Ls' Ws ∧ KeL base kb w (w1.setCell ⟨kb, 0, none⟩ V1) ∧ w1.cell? ⟨kb, 0, none⟩ = some lv ∧ w1.frozen? ⟨kb, 0, none⟩ = false := by
  have hk : Keeps (fun k => lv.ownBlock = some k) w w1 := (k0.mono (fun _ _ e => e.elim)).trans (Keeps.of_grown hg) (fun _ _ e => e)
  have hb1 : w1.heap[kb]? = some (.cells #[lv, wv, .int .i64 held, .bool false] 31 (0, 0)) := (hk.block kb h.lt h.kb_ne.1).trans h.blk
  have hv1 : V1.ownBlock ≠ some kb := by
    rcases loc with e | ⟨k, e, hk⟩
    · rw [e]; exact h.kb_ne.1
    · rw [e]; intro e2; cases e2; have := h.lt; have := k0.size; omega
  have hks : Keeps (fun k => k = kb) w1 (w1.setCell ⟨kb, 0, none⟩ V1) := Keeps.setCell w1 kb 0 V1
  refine ⟨⟨?_, hr.keeps hks (fun k hk' e => hv1 (by subst e; exact hk')), h.wrow.keeps (S := fun k => k = kb ∨ lv.ownBlock = some k) ((hk.mono (fun _ _ => .inr)).trans hks (fun _ _ => .inl)) (fun k hk' e => ?_), fun k hk' => ?_⟩, ?_, ?_, ?_⟩
  · simp [World.setCell, Array.getElem?_modify, hb1]
  · rcases e with e | e
    · subst e; exact h.kb_ne.2 hk'
    · exact h.ne k e hk'
  · rcases loc with e | ⟨j, e, hj⟩
    · exact h.ne k (e ▸ hk')
    · rw [e] at hk'
      cases hk'
      intro e2
      have := (h.wrow.lt _ e2).2
      have := k0.size
      omega
  · exact KeL.trans (hk.mono (fun k _ e => .inr ⟨(h.lrow.lt k e).1, h.lrow.tag k e⟩)) (KeL.set base kb w1 0 V1)
  · rw [cell_of_row _ _ _ _ _ _ hb1]; rfl
  · simp [World.frozen?, hb1]
theorem BwL.appW {w W0 w1 : World} {base kb : Nat} {lv wv V1 : Value} {held : Int} {Ls Ws Ws' : List Value} (h : BwL w base kb lv wv held Ls Ws) (k0 : Keeps (fun _ => False) w W0) (hg : W0.grownBy w1 wv.ownBlock) (hr : RowV w1 base 22 V1 Ws') (loc : V1.ownBlock = wv.ownBlock ∨ ∃ k, V1.ownBlock = some k ∧ W0.heap.size ≤ k) :
    BwL (w1.setCell ⟨kb, 1, none⟩ V1) base kb lv V1 held Ls Ws' ∧ KeL base kb w (w1.setCell ⟨kb, 1, none⟩ V1) ∧ w1.cell? ⟨kb, 1, none⟩ = some wv ∧ w1.frozen? ⟨kb, 1, none⟩ = false := by
  have hk : Keeps (fun k => wv.ownBlock = some k) w w1 := (k0.mono (fun _ _ e => e.elim)).trans (Keeps.of_grown hg) (fun _ _ e => e)
  have hb1 : w1.heap[kb]? = some (.cells #[lv, wv, .int .i64 held, .bool false] 31 (0, 0)) := (hk.block kb h.lt h.kb_ne.2).trans h.blk
  have hv1 : V1.ownBlock ≠ some kb := by
    rcases loc with e | ⟨k, e, hk⟩
    · rw [e]; exact h.kb_ne.2
    · rw [e]; intro e2; cases e2; have := h.lt; have := k0.size; omega
  have hks : Keeps (fun k => k = kb) w1 (w1.setCell ⟨kb, 1, none⟩ V1) := Keeps.setCell w1 kb 1 V1
  refine ⟨⟨?_, h.lrow.keeps (S := fun k => k = kb ∨ wv.ownBlock = some k) ((hk.mono (fun _ _ => .inr)).trans hks (fun _ _ => .inl)) (fun k hk' e => ?_), hr.keeps hks (fun k hk' e => hv1 (by subst e; exact hk')), fun k hk' => ?_⟩, ?_, ?_, ?_⟩
  · simp [World.setCell, Array.getElem?_modify, hb1]
  · rcases e with e | e
    · subst e; exact h.kb_ne.1 hk'
    · exact h.ne k hk' e
  · rcases loc with e | ⟨j, e, hj⟩
    · rw [e]; exact h.ne k hk'
    · rw [e]
      intro e2
      cases e2
      have := (h.lrow.lt _ hk').2
      have := k0.size
      omega
  · exact KeL.trans (hk.mono (fun k _ e => .inr ⟨(h.wrow.lt k e).1, h.wrow.tag k e⟩)) (KeL.set base kb w1 1 V1)
  · rw [cell_of_row _ _ _ _ _ _ hb1]; rfl
  · simp [World.frozen?, hb1]
theorem OwnL.weak {w : World} {b1 b2 : Nat} {v : Value} {xs : List L6} (h : OwnL w b1 v xs) (hb : b2 ≤ b1) : OwnL w b2 v xs := by
  refine ⟨h.1, ?_⟩
  rcases h.2 with h | ⟨g, cap, cur, e, hb', r⟩
  · exact .inl h
  · exact .inr ⟨g, cap, cur, e, Nat.le_trans hb hb', r⟩
theorem keep_midL {W1 w2 w3 W3 : World} {X : Obj} {base kb : Nat} {lv wv v : Value} {held : Int} {Ls Ws : List Value} {xs : List L6} (h : BwL W1 base kb lv wv held Ls Ws) (hb : base ≤ W1.heap.size) (ho : OwnL w2 W1.drew.heap.size v xs) (hg : (w2.alloc X).grownBy w3 wv.ownBlock) (hs : Keeps (fun k => k = kb) w3 W3) : OwnL W3 base v xs := by
  have k : Keeps (fun k => k = kb ∨ wv.ownBlock = some k) w2 W3 := (((Keeps.alloc w2 X).trans (Keeps.of_grown hg) (S := fun k => k = kb ∨ wv.ownBlock = some k) (fun _ _ e => .inr e))).trans hs (fun _ _ e => .inl e)
  refine (ho.weak hb).keeps k (fun i hi e => ?_)
  have h1 : W1.heap.size ≤ i := (ho.lt i hi).1
  rcases e with e | e
  · have := h.lt; omega
  · have := (h.wrow.lt i e).2; omega
/-- where the loop of Keep stands -/
structure KlL (w : World) (base kb : Nat) (E0 E : List EntL) (w' : World) : Prop where
  bw : ∃ lv wv held, BwL w' base kb lv wv held (E.map EntL.lv) (E.map EntL.wv)
  ents : ∀ x ∈ E, x.ok w' base
  suf : E <:+ E0
  ke : KeL base kb w w'
set_option maxRecDepth 100000 in
set_option maxHeartbeats 4000000 in
theorem keepL_any {w : World} {base kb : Nat} {lv wv : Value} {held : Int} {E : List EntL} {la : Option Addr} {ln lc : Nat} {xs : List L6} (h : BwL w base kb lv wv held (E.map EntL.lv) (E.map EntL.wv)) (he : ∀ x ∈ E, x.ok w base) (hl : OwnL w base (.slice la ln lc) xs) (hxs : SmL xs) (hsm : SmL xs) (hlen : E.length ≤ 4000) (hbase : base ≤ w.heap.size) :
    Calls Try.prog 23 #[.pointer (some ⟨kb, 0, none⟩), .slice la ln lc] w fun e w' => e = .returned (.tuple #[]) ∧ ∃ cv, (∀ k, cv.ownBlock = some k → w.heap.size ≤ k) ∧ ∃ E', KlL w base kb (E ++ [⟨.slice la ln lc, cv, xs⟩]) E' w' ∧ E'.length ≤ 4000 := by
  obtain ⟨va, vc, rfl⟩ := h.lrow.form
  obtain ⟨ua, uc, rfl⟩ := h.wrow.form
  simp only [List.length_map] at h
  have HB := Lib.hid h
  have HE : Hid (∀ x ∈ E, x.ok w base) := he
  have HL := Lib.hid hl
  obtain ⟨c0, c1, c2, c3⟩ := h.cells
  have HR : Hid (∀ X, RowV (w.alloc X) base 22 (.slice va E.length vc) (E.map EntL.lv)) := fun X => h.lrow.keeps (S := fun _ => False) (Keeps.alloc w X) (fun _ _ => id)
  have HC : Hid (∀ t, (w.alloc (.cells #[.slice la ln lc] t)).cell? ⟨w.heap.size, 0, none⟩ = some (.slice la ln lc)) := fun t => by rw [cell_of_row _ _ 0 _ _ _ (heap_alloc_new w _)]; rfl
  have HLn : Hid ((E.map EntL.lv).length ≤ 1048576) := show _ ≤ _ by rw [List.length_map]; omega
  have hkl := h.lt
  have HA : Hid (∀ X V1 w1, (w.alloc X).grownBy w1 (Value.slice va E.length vc).ownBlock → RowV w1 base 22 V1 (E.map EntL.lv ++ [.slice la ln lc]) → (V1.ownBlock = (Value.slice va E.length vc).ownBlock ∨ ∃ k, V1.ownBlock = some k ∧ (w.alloc X).heap.size ≤ k) → BwL (w1.setCell ⟨kb, 0, none⟩ V1) base kb V1 (.slice ua E.length uc) held (E.map EntL.lv ++ [.slice la ln lc]) (E.map EntL.wv) ∧ KeL base kb w (w1.setCell ⟨kb, 0, none⟩ V1) ∧ w1.cell? ⟨kb, 0, none⟩ = some (.slice va E.length vc) ∧ w1.frozen? ⟨kb, 0, none⟩ = false) := fun X V1 w1 h1 h2 h3 => h.appL (Keeps.alloc w X) h1 h2 h3
  clear h he hl
  go_enter Try.func23, Try.ntmps23
  go_upto_region 1 with (refine wpList_appVL (base := base) (vs := E.map EntL.lv) (y := .slice la ln lc) (g := w.heap.size) (cap := 1) (by rfl) (.tmp 8) (.tmp 10) (by rfl) (by exact HR.out _) (by rfl) (by rfl) (by exact HC.out _) (by rfl) (by exact HLn.out) (by simp; omega) ?_; intro va1 vc1 w1 hr1 hg1 hl1; have HA1 := Lib.hid (HA.out _ _ _ hg1 hr1 hl1); have e0 := HA1.out.2.2.1; have z0 := HA1.out.2.2.2; clear hr1 hg1 hl1)
  have HB1 := Lib.hid HA1.out.1
  have HK1 := Lib.hid HA1.out.2.1
  simp only [List.length_map] at HB1 HK1
  obtain ⟨V1, hV1⟩ : ∃ V1, Value.slice va1 (E.length + 1) vc1 = V1 := ⟨_, rfl⟩
  rw [hV1] at HB1 HK1 ⊢
  obtain ⟨W1, hW1⟩ : ∃ W1, w1.setCell ⟨kb, 0, none⟩ V1 = W1 := ⟨_, rfl⟩
  rw [hW1] at HB1 HK1 ⊢
  clear HA1 e0 z0 hW1 hV1 c0 c1 c2 c3 HR HC HA
  have HL1 : Hid (OwnL W1 base (.slice la ln lc) xs) := HL.out.ke HB.out.blk HK1.out
  have HBs : Hid (base ≤ W1.heap.size) := Nat.le_trans hbase HK1.out.size
  have c1 := HB1.out.cells.2.1
  have hkl1 := HB1.out.lt
  have HK0 : Hid (∀ w2 X, W1.drew.grownBy w2 none → Keeps (fun _ => False) W1 (w2.alloc X) ∧ Keeps (fun _ => False) W1 w2) := fun w2 X hg => by
    have k1 : Keeps (fun _ => False) W1 w2 := (keeps_drew0 W1).trans ((Keeps.of_grown hg).mono (fun _ _ e => by cases e)) (fun _ _ e => e)
    exact ⟨k1.trans (Keeps.alloc w2 X) (fun _ _ e => e), k1⟩
  have HC2 : Hid (∀ (w2 : World) (v : Value) t, (w2.alloc (.cells #[v] t)).cell? ⟨w2.heap.size, 0, none⟩ = some v) := fun w2 v t => by rw [cell_of_row _ _ 0 _ _ _ (heap_alloc_new w2 _)]; rfl
  have HLn2 : Hid ((E.map EntL.wv).length ≤ 1048576) := show _ ≤ _ by rw [List.length_map]; omega
  go_cut [] (fun wx => Hid (∃ ca cn cc V3, BwL wx base kb V1 V3 held (E.map EntL.lv ++ [.slice la ln lc]) (E.map EntL.wv ++ [.slice ca cn cc]) ∧ OwnL wx base (.slice ca cn cc) xs ∧ (∀ k, (Value.slice ca cn cc).ownBlock = some k → w.heap.size ≤ k) ∧ KeL base kb W1 wx))
  case first =>
    go_region_law (first | (refine step_copyL (base := base) (l := .slice la ln lc) (xs := xs) (by kernel_rfl) (.tmp 19) (by rfl) (by exact HL1.out) hxs (by rfl) ?_; intro ca cn cc w2 ho2 hg2; have c1b := (HB1.out.keeps0 (HK0.out w2 (.cells #[] 0) hg2).2).cells.2.1; have hkl2 := (HB1.out.keeps0 (HK0.out w2 (.cells #[] 0) hg2).2).lt; have HBs2 : Hid (base ≤ w2.heap.size) := Nat.le_trans HBs.out (HK0.out w2 (.cells #[] 0) hg2).2.size) | (refine step_appVL (base := base) (vs := E.map EntL.wv) (y := .slice ca cn cc) (cap := 1) (by kernel_rfl) (.tmp 18) (.tmp 21) (by rfl) (by exact (HB1.out.keeps0 (HK0.out w2 _ hg2).1).wrow) (by rfl) (by rfl) (by exact HC2.out _ _ _) (by rfl) (by exact HLn2.out) (by have := HBs2.out; simp; omega) ?_; intro va3 vc3 w3 hr3 hg3 hl3; have HA3 := Lib.hid (HB1.out.appW (HK0.out w2 _ hg2).1 hg3 hr3 hl3); have e1 := HA3.out.2.2.1; have z1 := HA3.out.2.2.2))
    all_goals
      simp only [List.length_map] at HA3 hg3
      go_wp2_with fail
      go_meet
      exact ⟨ca, cn, cc, _, HA3.out.1, keep_midL HB1.out HBs.out ho2 hg3 (Keeps.setCell _ _ _ _), fun k hk => Nat.le_trans HK1.out.size (ho2.lt k hk).1, HA3.out.2.1⟩
  case rest =>
    obtain ⟨ca, cn, cc, V3, hb3, ho3, hf3, hk3⟩ := hcut.out
    have HB3 := Lib.hid hb3
    have HO3 := Lib.hid ho3
    have HF3 : Hid (∀ k, (Value.slice ca cn cc).ownBlock = some k → w.heap.size ≤ k) := hf3
    have HK3 : Hid (KeL base kb w wc) := HK1.out.trans hk3
    have c2 := hb3.cells.2.2.1
    have z2 := hb3.thawed 2
    clear hcut hb3 ho3 hf3 hk3 HB1 HK1 HK0 HC2 c1
    go_wp2_with fail
    have HB4 : Hid (BwL (wc.setCell ⟨kb, 2, none⟩ (.int .i64 (wrap64 (wrap64 (held + (lc : Int)) + 1)))) base kb V1 V3 (wrap64 (wrap64 (held + (lc : Int)) + 1)) (E.map EntL.lv ++ [.slice la ln lc]) (E.map EntL.wv ++ [.slice ca cn cc])) := HB3.out.put rfl HB3.out.lrow HB3.out.wrow HB3.out.ne HB3.out.kb_ne
    have HK4 : Hid (KeL base kb w (wc.setCell ⟨kb, 2, none⟩ (.int .i64 (wrap64 (wrap64 (held + (lc : Int)) + 1))))) := HK3.out.trans (KeL.set base kb wc 2 _)
    have HO4 : Hid (OwnL (wc.setCell ⟨kb, 2, none⟩ (.int .i64 (wrap64 (wrap64 (held + (lc : Int)) + 1)))) base (.slice ca cn cc) xs) := HO3.out.ke HB3.out.blk (KeL.set base kb wc 2 _)
    generalize wc.setCell ⟨kb, 2, none⟩ (.int .i64 (wrap64 (wrap64 (held + (lc : Int)) + 1))) = W4 at HB4 HK4 HO4 ⊢
    generalize wrap64 (wrap64 (held + (lc : Int)) + 1) = hd4 at HB4 ⊢
    obtain ⟨E0, hE0⟩ : ∃ E0, E ++ [⟨.slice la ln lc, .slice ca cn cc, xs⟩] = E0 := ⟨_, rfl⟩
    have HS : Hid (KlL w base kb E0 E0 W4) := by
      rw [← hE0]
      refine ⟨⟨V1, V3, hd4, by simpa using HB4.out⟩, fun x hx => ?_, List.suffix_refl _, HK4.out⟩
      rcases List.mem_append.1 hx with hx | hx
      · have := HE.out x hx
        exact ⟨this.l.ke HB.out.blk HK4.out, this.w.ke HB.out.blk HK4.out, this.sm⟩
      · obtain rfl := List.mem_singleton.1 hx
        exact ⟨HL.out.ke HB.out.blk HK4.out, HO4.out, hsm⟩
    have HFin : Hid (∀ E' w', KlL w base kb E0 E' w' → E'.length ≤ 4000 → ∃ cv, (∀ k, cv.ownBlock = some k → w.heap.size ≤ k) ∧ ∃ E', KlL w base kb (E ++ [⟨.slice la ln lc, cv, xs⟩]) E' w' ∧ E'.length ≤ 4000) := fun E' w' hk hl => ⟨.slice ca cn cc, HF3.out, E', by rw [hE0]; exact hk, hl⟩
    clear HB3 HK3 HO3 HF3 HB4 HK4 HO4 HL1 HL HE c2 z2 hE0
    go_loopw [] (fun wr => Hid (∃ E', KlL w base kb E0 E' wr)) (fun wr => lenM (wr.cell? ⟨kb, 0, none⟩))
    case atStart => exact ⟨E0, HS.out⟩
    case round =>
      obtain ⟨E', hkl⟩ := hrel.out
      obtain ⟨lv', wv', hd', hb'⟩ := hkl.bw
      obtain ⟨a1, b1, rfl⟩ := hb'.lrow.form
      obtain ⟨a2, b2, rfl⟩ := hb'.wrow.form
      simp only [List.length_map] at hb'
      obtain ⟨n, hn⟩ : ∃ n, E'.length = n := ⟨_, rfl⟩
      rw [hn] at hb'
      have HKl := Lib.hid hkl
      have HB' := Lib.hid hb'
      obtain ⟨x0, x1, x2, x3⟩ := hb'.cells
      clear hrel hkl hb' HS HLn HLn2 HBs
      obtain ⟨bb, hbb⟩ : ∃ bb : Bool, bb = (decide (1 < n) && (decide (1000000 < hd') || decide (4000 < n))) := ⟨_, rfl⟩
      go_upto_region 3 with fail
      go_cut [56] (fun y wx => y = .bool bb ∧ wx = wr)
      case first =>
        by_cases h1 : 1 < n
        · have d1 : decide ((1 : Int) < (n : Int)) = true := decide_eq_true (by omega)
          by_cases h2 : 1000000 < hd'
          · have d2 : decide ((1000000 : Int) < hd') = true := decide_eq_true h2
            go_wp2_with fail
            go_meet
            exact ⟨by rw [hbb]; simp [h1, h2], rfl⟩
          · have d2 : decide ((1000000 : Int) < hd') = false := decide_eq_false h2
            by_cases h3 : 4000 < n
            · have d3 : decide ((4000 : Int) < (n : Int)) = true := decide_eq_true (by omega)
              go_wp2_with fail
              go_meet
              exact ⟨by rw [hbb]; simp [h1, h3], rfl⟩
            · have d3 : decide ((4000 : Int) < (n : Int)) = false := decide_eq_false (by omega)
              go_wp2_with fail
              go_meet
              exact ⟨by rw [hbb]; simp [h1, h2, h3], rfl⟩
        · have d1 : decide ((1 : Int) < (n : Int)) = false := decide_eq_false (by omega)
          go_wp2_with fail
          go_meet
          exact ⟨by rw [hbb]; simp [h1], rfl⟩
      case rest =>
        obtain ⟨rfl, hw⟩ := hcut
        have hw := hw.symm
        subst hw
        cases hq : bb with
        | false =>
          have HLe : Hid (E'.length ≤ 4000) := show _ ≤ _ by
            rw [hq] at hbb
            simp only [Bool.false_eq, Bool.and_eq_false_iff, Bool.or_eq_false_iff, decide_eq_false_iff_not] at hbb
            omega
          go_wp2_with fail
          go_end0
          exact ⟨rfl, HFin.out _ _ HKl.out HLe.out⟩
        | true =>
          have hn1 : 1 < n := by
            rw [hq] at hbb
            simp only [Bool.true_eq, Bool.and_eq_true, decide_eq_true_eq] at hbb
            exact hbb.1
          clear hbb
          obtain ⟨e, E2, rfl⟩ : ∃ e E2, E' = e :: E2 := by
            cases E' with
            | nil => simp at hn; omega
            | cons e E2 => exact ⟨e, E2, rfl⟩
          obtain ⟨elv, ewv, exs⟩ := e
          obtain ⟨g1, o1, c1', e1, hc1⟩ := HB'.out.lrow.some_of (by simp)
          obtain ⟨g2, o2, c2', e2, hc2⟩ := HB'.out.wrow.some_of (by simp)
          simp only [List.map_cons, List.length_cons, List.length_map, Value.slice.injEq] at e1 e2 hc1 hc2
          obtain ⟨rfl, hn2, rfl⟩ := e1
          obtain ⟨rfl, -, rfl⟩ := e2
          have y1 := HB'.out.lrow.cell 0 (by simp)
          have y2 := HB'.out.wrow.cell 0 (by simp)
          simp only [Nat.add_zero, List.map_cons, List.getElem_cons_zero] at y1 y2
          have HOk := Lib.hid (HKl.out.ents _ (List.mem_cons_self))
          obtain ⟨pa, pn, pc, hpv⟩ : ∃ pa pn pc, elv = .slice pa pn pc := by
            rcases HOk.out.l.2 with ⟨e, _⟩ | ⟨g, cap, cur, e, _⟩
            · exact ⟨_, _, _, e⟩
            · exact ⟨_, _, _, e⟩
          subst hpv
          obtain ⟨qa, qn, qc, hqv⟩ : ∃ qa qn qc, ewv = .slice qa qn qc := by
            rcases HOk.out.w.2 with ⟨e, _⟩ | ⟨g, cap, cur, e, _⟩
            · exact ⟨_, _, _, e⟩
            · exact ⟨_, _, _, e⟩
          subst hqv
          have HSm : Hid (Calls Try.prog 20 #[.slice pa pn pc, .slice qa qn qc] wr.drew fun e w' => e = .returned (.bool true) ∧ (w'.cell? ⟨kb, 0, none⟩ = some (.slice (some ⟨g1, o1, none⟩) n b1) ∧ w'.cell? ⟨kb, 1, none⟩ = some (.slice (some ⟨g2, o2, none⟩) n b2) ∧ w'.cell? ⟨kb, 3, none⟩ = some (.bool false) ∧ w'.cell? ⟨g1, o1, none⟩ = some (.slice pa pn pc) ∧ w'.cell? ⟨g2, o2, none⟩ = some (.slice qa qn qc)) ∧ w'.frozen? ⟨kb, 3, none⟩ = false ∧ Hid (Keeps (fun _ => False) wr w') ∧ Hid ((w'.setCell ⟨kb, 3, none⟩ (.bool false)).cell? ⟨kb, 0, none⟩ = some (.slice (some ⟨g1, o1, none⟩) n b1) ∧ (w'.setCell ⟨kb, 3, none⟩ (.bool false)).cell? ⟨kb, 1, none⟩ = some (.slice (some ⟨g2, o2, none⟩) n b2) ∧ (w'.setCell ⟨kb, 3, none⟩ (.bool false)).cell? ⟨kb, 3, none⟩ = some (.bool false) ∧ (w'.setCell ⟨kb, 3, none⟩ (.bool false)).cell? ⟨g1, o1, none⟩ = some (.slice pa pn pc) ∧ (w'.setCell ⟨kb, 3, none⟩ (.bool false)).cell? ⟨g2, o2, none⟩ = some (.slice qa qn qc)) ∧ Hid (BwL (w'.setCell ⟨kb, 3, none⟩ (.bool false)) base kb (.slice (some ⟨g1, o1, none⟩) n b1) (.slice (some ⟨g2, o2, none⟩) n b2) hd' (.slice pa pn pc :: E2.map EntL.lv) (.slice qa qn qc :: E2.map EntL.wv))) := by
            refine (sameL_any (w := wr.drew) HOk.out.l HOk.out.w HOk.out.sm).mono ?_
            rintro e w' ⟨rfl, hb⟩
            have k : Keeps (fun _ => False) wr w' := (keeps_drew0 wr).trans (Keeps.of_below hb) (fun _ _ e => e)
            have b := HB'.out.keeps0 k
            have c : ∀ g i v, wr.cell? ⟨g, i, none⟩ = some v → w'.cell? ⟨g, i, none⟩ = some v := fun g i v hc => (World.cell?_of_block (a := ⟨g, i, none⟩) (k.block g (World.block_lt_of_cell? wr _ hc) id)).trans hc
            have b2 : BwL (w'.setCell ⟨kb, 3, none⟩ (.bool false)) base kb (.slice (some ⟨g1, o1, none⟩) n b1) (.slice (some ⟨g2, o2, none⟩) n b2) hd' (.slice pa pn pc :: E2.map EntL.lv) (.slice qa qn qc :: E2.map EntL.wv) := b.put rfl b.lrow b.wrow b.ne b.kb_ne
            have y1' := b2.lrow.cell 0 (by simp)
            have y2' := b2.wrow.cell 0 (by simp)
            exact ⟨rfl, ⟨b.cells.1, b.cells.2.1, b.cells.2.2.2, c _ _ _ y1, c _ _ _ y2⟩, b.thawed 3, k, ⟨b2.cells.1, b2.cells.2.1, b2.cells.2.2.2, y1', y2'⟩, b2⟩
          have hn0 : (0 : Int) < (n : Int) := by omega
          go_upto_region 4 with fail
          go_cut [] (fun wx => Hid (BwL wx base kb (.slice (some ⟨g1, o1, none⟩) n b1) (.slice (some ⟨g2, o2, none⟩) n b2) hd' (.slice pa pn pc :: E2.map EntL.lv) (.slice qa qn qc :: E2.map EntL.wv) ∧ KeL base kb wr wx))
          case first =>
            go_region_held3 (fun w' => w'.cell? ⟨kb, 0, none⟩ = some (.slice (some ⟨g1, o1, none⟩) n b1) ∧ w'.cell? ⟨kb, 1, none⟩ = some (.slice (some ⟨g2, o2, none⟩) n b2) ∧ w'.cell? ⟨kb, 3, none⟩ = some (.bool false) ∧ w'.cell? ⟨g1, o1, none⟩ = some (.slice pa pn pc) ∧ w'.cell? ⟨g2, o2, none⟩ = some (.slice qa qn qc)) (first | (exact HZ5.out) | go_keep) (first | (go_at_call 20; refine HSm.out.mono ?_; rintro e w5 ⟨rfl, ⟨k0, k1, k3, k4, k5⟩, zf, HK5, HZ5, HB5⟩))
            all_goals
              go_wp2_with fail
              go_meet
              exact ⟨HB5.out, KeL.trans (HK5.out.mono (fun _ _ e => e.elim)) (KeL.set base kb w5 3 _)⟩
          case rest =>
            have HB6 := Lib.hid hcut.out.1
            have HK6 := Lib.hid hcut.out.2
            clear hcut x0 x1 x2 x3 y1 y2 HSm
            obtain ⟨x0, x1, x2, x3⟩ := HB6.out.cells
            have z2 := HB6.out.thawed 2
            have y1 := HB6.out.lrow.cell 0 (by simp)
            simp only [Nat.add_zero, List.getElem_cons_zero] at y1
            go_upto_region 5 with fail
            go_cut [] (fun wx => Hid (∃ hd7, BwL wx base kb (.slice (some ⟨g1, o1, none⟩) n b1) (.slice (some ⟨g2, o2, none⟩) n b2) hd7 (.slice pa pn pc :: E2.map EntL.lv) (.slice qa qn qc :: E2.map EntL.wv) ∧ KeL base kb wr wx))
            case first =>
              go_region
              all_goals
                go_wp2_with fail
                go_meet
                exact ⟨_, (HB6.out.put (i := 2) rfl HB6.out.lrow HB6.out.wrow HB6.out.ne HB6.out.kb_ne).keeps0 (keeps_drew0 _), (HK6.out.trans (KeL.set base kb _ 2 _)).drew⟩
            case rest =>
              obtain ⟨hd7, hb7, hk7⟩ := hcut.out
              have HB7 := Lib.hid hb7
              have HK7 := Lib.hid hk7
              clear hcut x0 x1 x2 x3 y1 z2 hb7 hk7 HB6 HK6
              obtain ⟨x0, x1, x2, x3⟩ := HB7.out.cells
              have z0 := HB7.out.thawed 0
              have z1 := HB7.out.thawed 1
              have hnb1 : n ≤ b1 := by omega
              have hnb2 : n ≤ b2 := by omega
              have hi1 : (1 : Int) ≤ (n : Int) := by omega
              have hi2 : (n : Int) ≤ (b1 : Int) := by omega
              have hi3 : (n : Int) ≤ (b2 : Int) := by omega
              go_wp2_with fail
              have hlen2 : (E2.map EntL.lv).length = E2.length := List.length_map _
              have hlen3 : (E2.map EntL.wv).length = E2.length := List.length_map _
              have t1 := HB7.out.lrow.tail
              have t2 := HB7.out.wrow.tail
              rw [hlen2] at t1
              rw [hlen3] at t2
              have b8 : BwL (wc.setCell ⟨kb, 0, none⟩ (.slice (some ⟨g1, o1 + 1, none⟩) E2.length (b1 - 1))) base kb (.slice (some ⟨g1, o1 + 1, none⟩) E2.length (b1 - 1)) (.slice (some ⟨g2, o2, none⟩) n b2) hd7 (E2.map EntL.lv) (.slice qa qn qc :: E2.map EntL.wv) := HB7.out.put rfl t1 HB7.out.wrow (fun k hk => HB7.out.ne k hk) HB7.out.kb_ne
              have t3 := b8.wrow.tail
              rw [hlen3] at t3
              have b9 : BwL ((wc.setCell ⟨kb, 0, none⟩ (.slice (some ⟨g1, o1 + 1, none⟩) E2.length (b1 - 1))).setCell ⟨kb, 1, none⟩ (.slice (some ⟨g2, o2 + 1, none⟩) E2.length (b2 - 1))) base kb (.slice (some ⟨g1, o1 + 1, none⟩) E2.length (b1 - 1)) (.slice (some ⟨g2, o2 + 1, none⟩) E2.length (b2 - 1)) hd7 (E2.map EntL.lv) (E2.map EntL.wv) := b8.put rfl b8.lrow t3 (fun k hk => b8.ne k hk) b8.kb_ne
              have k9 : KeL base kb wr ((wc.setCell ⟨kb, 0, none⟩ (.slice (some ⟨g1, o1 + 1, none⟩) E2.length (b1 - 1))).setCell ⟨kb, 1, none⟩ (.slice (some ⟨g2, o2 + 1, none⟩) E2.length (b2 - 1))) := (HK7.out.trans (KeL.set base kb wc 0 _)).trans (KeL.set base kb _ 1 _)
              refine ⟨⟨E2, ⟨_, _, _, b9⟩, fun x hx => ?_, (List.suffix_cons _ _).trans HKl.out.suf, HKl.out.ke.trans k9⟩, ?_⟩
              · have := HKl.out.ents x (List.mem_cons_of_mem _ hx)
                exact ⟨this.l.ke HB'.out.blk k9, this.w.ke HB'.out.blk k9, this.sm⟩
              · rw [b9.cells.1, HB'.out.cells.1]
                show E2.length < n
                omega
end Go.Proofs.Ytgjamnhepbblhaa
