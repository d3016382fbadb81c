/- Scan: text, walked (made by gen_sctext.py). -/
import Derived.Test.YtlhecgokedckdaaDoorScText
namespace Go.Proofs.YtlhecgokedckdaaDoor
open Go.RowKit
/-- the frame of text -/
def TxFr (p : Nat) (ov : Value) (a : Act) : Prop := ∃ u : Nat → Value, a = { tmps := #[.pointer (some ⟨p, 0, none⟩), u 1, u 2, u 3, ov, u 5, u 6, u 7, u 8, u 9, u 10, u 11, u 12, u 13, u 14, u 15, u 16, u 17, u 18, u 19, u 20, u 21, u 22, u 23, u 24, u 25, u 26, u 27, u 28, u 29, u 30, u 31, u 32, u 33, u 34, u 35, u 36, u 37, u 38, u 39, u 40, u 41, u 42, u 43, u 44, u 45, u 46, u 47, u 48, u 49, u 50, u 51, u 52, u 53, u 54, u 55, u 56, u 57, u 58, u 59, u 60, u 61, u 62, u 63, u 64, u 65, u 66, u 67, u 68, u 69, u 70, u 71, u 72, u 73, u 74, u 75, u 76, u 77, u 78, u 79, u 80, u 81, u 82, u 83, u 84, u 85, u 86, u 87, u 88, u 89, u 90, u 91, u 92, u 93, u 94, u 95, u 96, u 97], defers := [] }
theorem TxFr.mk {p : Nat} {ov : Value} {T : Array Value} (h : T = #[.pointer (some ⟨p, 0, none⟩), T.getD 1 undef, T.getD 2 undef, T.getD 3 undef, ov, T.getD 5 undef, T.getD 6 undef, T.getD 7 undef, T.getD 8 undef, T.getD 9 undef, T.getD 10 undef, T.getD 11 undef, T.getD 12 undef, T.getD 13 undef, T.getD 14 undef, T.getD 15 undef, T.getD 16 undef, T.getD 17 undef, T.getD 18 undef, T.getD 19 undef, T.getD 20 undef, T.getD 21 undef, T.getD 22 undef, T.getD 23 undef, T.getD 24 undef, T.getD 25 undef, T.getD 26 undef, T.getD 27 undef, T.getD 28 undef, T.getD 29 undef, T.getD 30 undef, T.getD 31 undef, T.getD 32 undef, T.getD 33 undef, T.getD 34 undef, T.getD 35 undef, T.getD 36 undef, T.getD 37 undef, T.getD 38 undef, T.getD 39 undef, T.getD 40 undef, T.getD 41 undef, T.getD 42 undef, T.getD 43 undef, T.getD 44 undef, T.getD 45 undef, T.getD 46 undef, T.getD 47 undef, T.getD 48 undef, T.getD 49 undef, T.getD 50 undef, T.getD 51 undef, T.getD 52 undef, T.getD 53 undef, T.getD 54 undef, T.getD 55 undef, T.getD 56 undef, T.getD 57 undef, T.getD 58 undef, T.getD 59 undef, T.getD 60 undef, T.getD 61 undef, T.getD 62 undef, T.getD 63 undef, T.getD 64 undef, T.getD 65 undef, T.getD 66 undef, T.getD 67 undef, T.getD 68 undef, T.getD 69 undef, T.getD 70 undef, T.getD 71 undef, T.getD 72 undef, T.getD 73 undef, T.getD 74 undef, T.getD 75 undef, T.getD 76 undef, T.getD 77 undef, T.getD 78 undef, T.getD 79 undef, T.getD 80 undef, T.getD 81 undef, T.getD 82 undef, T.getD 83 undef, T.getD 84 undef, T.getD 85 undef, T.getD 86 undef, T.getD 87 undef, T.getD 88 undef, T.getD 89 undef, T.getD 90 undef, T.getD 91 undef, T.getD 92 undef, T.getD 93 undef, T.getD 94 undef, T.getD 95 undef, T.getD 96 undef, T.getD 97 undef]) : TxFr p ov { tmps := T, defers := [] } := ⟨fun i => T.getD i undef, congrArg (fun t => ({ tmps := t, defers := [] } : Act)) h⟩
/-- the cutter while text goes on, and what has been gathered -/
def TxI (w : World) (p : Nat) (v : Value) (zs : List Nat) (lv : Value) (a : Nat) (wr : World) (k : Nat) (ov : Value) (xs : List Nat) : Prop :=
  IntI w p v zs lv a wr k ∧ Own wr w.heap.size ov xs ∧ (∀ z ∈ xs, z < 256) ∧ xs.length ≤ k
section
variable {w : World} {p : Nat} {v : Value} {zs : List Nat} {lv : Value} {a : Nat} {wr : World} {k : Nat} {ov : Value} {xs : List Nat}
theorem TxI.below {wr' : World} (h : TxI w p v zs lv a wr k ov xs) (hb : Below wr.heap.size wr wr') : TxI w p v zs lv a wr' k ov xs := ⟨h.1.below hb, h.2.1.below hb, h.2.2⟩
theorem TxI.move (h : TxI w p v zs lv a wr k ov xs) (hp : p < w.heap.size) (j : Nat) (hj : a + (k + j) ≤ zs.length) : TxI w p v zs lv a (wr.setCell ⟨p, 1, none⟩ (.int .i64 ((a + (k + j) : Nat) : Int))) (k + j) ov xs :=
  ⟨h.1.move j hj, h.2.1.keeps (Keeps.setCell wr p 1 _) (fun b hb e => by have := (h.2.1.lt b hb).1; omega), h.2.2.1, by have := h.2.2.2; omega⟩
theorem TxI.app {o : Obj} {w2 : World} {v2 : Value} {z : Nat} (h : TxI w p v zs lv a wr k ov xs) (hp : p < w.heap.size) (h2 : Own w2 w.heap.size v2 (xs ++ [z])) (g : (wr.alloc o).grownBy w2 ov.ownBlock) (hz : z < 256) (hk : xs.length + 1 ≤ k) : TxI w p v zs lv a w2 k v2 (xs ++ [z]) := by
  obtain ⟨⟨i1, i2, i3⟩, o1, s1, _⟩ := h
  have hk1 : Keeps (fun b => ov.ownBlock = some b) wr w2 := (Keeps.alloc (S := fun _ => False) wr o |>.mono (fun _ _ e => e.elim)).trans (Keeps.of_grown g) (fun _ _ e => e)
  refine ⟨⟨i1, i2.keeps hk1 (fun e => by have := (o1.lt p e).1; omega), i3.trans hk1 (fun i hi e => by have := (o1.lt i e).1; omega)⟩, h2, ?_, by rw [List.length_append]; exact hk⟩
  intro y hy
  rcases List.mem_append.1 hy with hy | hy
  · exact s1 y hy
  · rw [List.mem_singleton.1 hy]; exact hz
theorem TxI.pos (h : TxI w p v zs lv a wr k ov xs) : posOf wr p = a + k := h.1.2.1.pos
end
/-- what holds at each jump -/
def TxJ (w : World) (p : Nat) (v : Value) (zs : List Nat) (lv : Value) (a : Nat) (l : Nat) (ac : Act) (wr : World) : Prop :=
  ∃ k ov xs, TxFr p ov ac ∧
    ((l = 0 ∧ TxI w p v zs lv a wr k ov xs ∧ a + k < zs.length ∧ Sc.TxtAt (zs.drop (a + 1)) xs k) ∨
     (l = 2 ∧ TxI w p v zs lv a wr (k + 1) ov xs ∧ xs.length ≤ k ∧ Sc.TxtAt (zs.drop (a + 1)) xs k ∧ ((zs.drop (a + 1)).drop k).headD 0 = 92) ∨
     (l = 4 ∧ TxI w p v zs lv a wr (k + 2) ov xs ∧ xs.length ≤ k ∧ Sc.TxtAt (zs.drop (a + 1)) xs k ∧ ((zs.drop (a + 1)).drop k).headD 0 = 92 ∧ ((zs.drop (a + 1)).drop (k + 1)).headD 0 = 120) ∨
     (l = 1 ∧ TxI w p v zs lv a wr (k + 1) ov xs ∧ Sc.TxtOk (zs.drop (a + 1)) xs (k + 1) ∧ a + (k + 1) < zs.length) ∨
     (l = 3 ∧ TxI w p v zs lv a wr (k + 1) ov xs ∧ Sc.TxtBad (zs.drop (a + 1)) k))
def txM (zs : List Nat) (p : Nat) (l : Nat) (wr : World) : Nat := if l = 1 then 2 else if l = 3 then 1 else 10 + (zs.length - posOf wr p)
theorem txM_0 (zs : List Nat) (p : Nat) (wr : World) : txM zs p 0 wr = 10 + (zs.length - posOf wr p) := rfl
theorem txM_2 (zs : List Nat) (p : Nat) (wr : World) : txM zs p 2 wr = 10 + (zs.length - posOf wr p) := rfl
theorem txM_4 (zs : List Nat) (p : Nat) (wr : World) : txM zs p 4 wr = 10 + (zs.length - posOf wr p) := rfl
theorem txM_1 (zs : List Nat) (p : Nat) (wr : World) : txM zs p 1 wr = 2 := rfl
theorem txM_3 (zs : List Nat) (p : Nat) (wr : World) : txM zs p 3 wr = 1 := rfl
theorem or_four (h l : Nat) (hh : h < 16) (hl : l < 16) : bits .or .u64 ((h : Int) * 16) (l : Int) % 256 = ((16 * h + l : Nat) : Int) := by
  have : ∀ h l : Fin 16, bits .or .u64 ((h.val : Int) * 16) (l.val : Int) % 256 = ((16 * h.val + l.val : Nat) : Int) := by decide +kernel
  exact this ⟨h, hh⟩ ⟨l, hl⟩
theorem sl_byte (w : World) {z : Nat} (hz : z < 256) : Sl (w.alloc (.cells #[.int .u8 (z : Int)] 5)) (.slice (some ⟨w.heap.size, 0, none⟩) 1 1) [z] := by
  have hr : Row (w.alloc (.cells #[.int .u8 (z : Int)] 5)) w.heap.size [z] := heap_alloc_new w _
  exact hr.sl (fun y hy => by rw [List.mem_singleton.1 hy]; exact hz) 0 1 1 (by simp) (by decide) (by decide)
set_option maxRecDepth 100000 in
set_option maxHeartbeats 1000000 in
theorem text_any {w : World} {p : Nat} {v : Value} {a : Nat} {lv : Value} {zs : List Nat} (h : CutB w p v a lv) (hs : Sl w v zs) (hp : v.ownBlock ≠ some p) (ha : a < zs.length) (hmax : zs.length ≤ 1048576) :
    Calls Tryd.prog 34 #[.pointer (some ⟨p, 0, none⟩)] w fun e w' => e = .returned (textV (Sc.textF (zs.drop (a + 1)))) ∧ CutB w' p v (a + ((Sc.textF (zs.drop (a + 1))).len + 1)) lv ∧ Keeps (fun k => k = p) w w' := by
  have hpl := h.lt
  have HC : Hid (CutB w p v a lv) := h
  have HS : Hid (Sl w v zs) := hs
  clear h hs
  have HAh : Hid (∀ W k, IntI w p v zs lv a W (k + 1) → Calls Tryd.prog 31 #[.pointer (some ⟨p, 0, none⟩)] W fun e w' => e = .returned (.int .u8 (((zs.drop (a + 1)).drop k).headD 0 : Nat)) ∧ Below W.heap.size W w') := fun W k hI => by
    rw [Sc.headD_drop, show a + 1 + k = a + (k + 1) by omega]
    exact ahead_any hI.2.1 (HS.out.keeps hI.2.2 (fun k hk e => hp (e ▸ hk)))
  have HBy : Hid (∀ k, ((zs.drop (a + 1)).drop k).headD 0 < 256) := fun k => by
    rw [Sc.headD_drop]
    exact HS.out.byte _
  have HIn : Hid (∀ k, ((zs.drop (a + 1)).drop k).headD 0 ≠ 0 → a + (k + 1) < zs.length) := fun k hk => by
    rw [Sc.headD_drop] at hk
    by_cases hlt : a + 1 + k < zs.length
    · omega
    · rw [List.getD_eq_getElem?_getD, List.getElem?_eq_none (by omega)] at hk
      exact absurd rfl hk
  go_enter Tryd.func34, Tryd.ntmps34
  go_wp2
  refine (fun (h : ∀ a0, a0 = ({ tmps := _, defers := [] } : Act) → Code.wp _ (Code.scope _) _ a0 _) => h _ rfl) ?_
  intro a0 ha0
  refine wp_scope_fall (TxJ w p v zs lv a) (fun l _ wr => txM zs p l wr) ?_ ?_
  · rintro l ac W ⟨k, ov, xs, ⟨u, rfl⟩, ⟨rfl, HI, hlt, hd⟩ | ⟨rfl, HI, hxl, hd, g1⟩ | ⟨rfl, HI, hxl, hd, g1, g2⟩ | ⟨rfl, HI, hd, hlt⟩ | ⟨rfl, HI, hd⟩⟩
    · refine ⟨_, rfl, ?_⟩
      have HI1 : TxI w p v zs lv a (W.setCell ⟨p, 1, none⟩ (.int .i64 ((a : Int) + (k : Int) + 1))) (k + 1) ov xs := HI.move hpl 1 (by omega)
      have hxl := HI.2.2.2
      have HPo : Hid (posOf W p = a + k) := HI.pos
      have c1 := HI.1.2.1.cell1
      have t1 := HI.1.2.1.thawed 1
      have hz := HBy.out k
      have hin := HIn.out k
      have F1 := fun hb => hd.quote hb
      have F2 := fun h1 h2 h3 => hd.wrong h1 h2 h3
      have F3 := fun h1 h2 h3 => hd.plain h1 h2 h3
      have HA : Hid (∀ W, IntI w p v zs lv a W (k + 1) → Calls Tryd.prog 31 #[.pointer (some ⟨p, 0, none⟩)] W fun e w' => e = .returned (.int .u8 (((zs.drop (a + 1)).drop k).headD 0 : Nat)) ∧ Below W.heap.size W w') := fun W hI => HAh.out W k hI
      obtain ⟨z, hze⟩ : ∃ z, z = ((zs.drop (a + 1)).drop k).headD 0 := ⟨_, rfl⟩
      have HZ : Hid (z = ((zs.drop (a + 1)).drop k).headD 0) := hze
      rw [← hze] at HA hz hin F1 F2 F3
      clear hze
      have HF1 : Hid (z = 34 → Sc.TxtOk (zs.drop (a + 1)) xs (k + 1)) := F1
      have HF2 : Hid (z ≠ 34 → z ≠ 92 → (z < 32 ∨ 126 < z) → Sc.TxtBad (zs.drop (a + 1)) k) := F2
      have HF3 : Hid (z ≠ 34 → z ≠ 92 → ¬ (z < 32 ∨ 126 < z) → Sc.TxtAt (zs.drop (a + 1)) (xs ++ [z]) (k + 1)) := F3
      have HIN : Hid (z ≠ 0 → a + (k + 1) < zs.length) := hin
      clear F1 F2 F3 hin
      go_wp2_with fail
      refine (HA.out _ HI1.1).mono ?_
      rintro e w1 ⟨rfl, hb1⟩
      have HI2 := HI1.below hb1
      clear hb1 HA
      by_cases e1 : z = 34
      · have hs := HF1.out e1
        have hl := HIN.out (by omega)
        subst e1
        go_wp2_with fail
        go_step3
        exact ⟨⟨k, ov, xs, TxFr.mk rfl, .inr (.inr (.inr (.inl ⟨rfl, HI2, hs, hl⟩)))⟩, by rw [txM_0, txM_1]; omega⟩
      · have q1 : ((z : Int) == 34) = false := beq_eq_false_iff_ne.2 (by omega)
        by_cases e2 : z = 92
        · have hl := HIN.out (by omega)
          have hz2 := HZ.out
          rw [e2] at hz2
          have HZ2 : Hid (((zs.drop (a + 1)).drop k).headD 0 = 92) := hz2.symm
          clear hz2
          subst e2
          go_wp2_with fail
          go_step3
          exact ⟨⟨k, ov, xs, TxFr.mk rfl, .inr (.inl ⟨rfl, HI2, hxl, hd, HZ2.out⟩)⟩, by rw [txM_0, txM_2, HI2.pos, HPo.out]; omega⟩
        · have q2 : ((z : Int) == 92) = false := beq_eq_false_iff_ne.2 (by omega)
          by_cases e3 : z < 32 ∨ 126 < z
          · have hs := HF2.out e1 e2 e3
            rcases e3 with e3 | e3
            · go_wp2_with fail
              go_step3
              exact ⟨⟨k, ov, xs, TxFr.mk rfl, .inr (.inr (.inr (.inr ⟨rfl, HI2, hs⟩)))⟩, by rw [txM_0, txM_3]; omega⟩
            · have q3 : ¬ (z : Int) < 32 := by omega
              go_wp2_with fail
              go_step3
              exact ⟨⟨k, ov, xs, TxFr.mk rfl, .inr (.inr (.inr (.inr ⟨rfl, HI2, hs⟩)))⟩, by rw [txM_0, txM_3]; omega⟩
          · have hs := HF3.out e1 e2 e3
            have hl := HIN.out (by omega)
            have q3 : ¬ (z : Int) < 32 := by omega
            have q4 : ¬ (126 : Int) < (z : Int) := by omega
            have HSl : Hid (Sl (w1.alloc (.cells #[.int .u8 (z : Int)] 5)) (.slice (some ⟨w1.heap.size, 0, none⟩) 1 1) [z]) := sl_byte w1 hz
            have HOA : Hid (Own (w1.alloc (.cells #[.int .u8 (z : Int)] 5)) w.heap.size ov xs) := HI2.2.1.below ((Below.refl _ _).alloc (Nat.le_refl _) _)
            have HBase : Hid (w.heap.size ≤ w1.heap.size) := HI2.1.2.2.size
            go_wp2_with (at_builtin; refine wpList_append_sl (v := ov) (.tmp 30) (.tmp 32) (by rfl) rfl rfl HOA.out rfl HSl.out (by simp only [List.length_cons, List.length_nil]; omega) (by simp; exact Nat.le_succ_of_le HBase.out) ?_; intro v2 w2 h2 g2 l2; have HT2 : Hid (TxI w p v zs lv a w2 (k + 1) v2 (xs ++ [z])) := HI2.app hpl h2 g2 hz (by omega); clear h2 g2 l2)
            go_step3
            exact ⟨⟨k + 1, v2, xs ++ [z], TxFr.mk rfl, .inl ⟨rfl, HT2.out, hl, hs⟩⟩, by rw [txM_0, txM_0, HT2.out.pos, HPo.out]; omega⟩
    · refine ⟨_, rfl, ?_⟩
      have hbd : a + (k + 1) ≤ 1048576 := by have := HI.1.1; omega
      have hl0 := HIn.out k (by rw [g1]; decide)
      have HI1 : TxI w p v zs lv a (W.setCell ⟨p, 1, none⟩ (.int .i64 ((a : Int) + ((k : Int) + 1) + 1))) (k + 2) ov xs := HI.move hpl 1 (by omega)
      have HPo : Hid (posOf W p = a + (k + 1)) := HI.pos
      have c1 := HI.1.2.1.cell1
      have t1 := HI.1.2.1.thawed 1
      have hz := HBy.out (k + 1)
      have hin := HIn.out (k + 1)
      have F1 := fun c h2 => hd.esc (c := c) g1 h2
      have F2 := fun a1 a2 a3 a4 a5 => hd.escBad g1 a1 a2 a3 a4 a5
      have HA : Hid (∀ W, IntI w p v zs lv a W (k + 2) → Calls Tryd.prog 31 #[.pointer (some ⟨p, 0, none⟩)] W fun e w' => e = .returned (.int .u8 (((zs.drop (a + 1)).drop (k + 1)).headD 0 : Nat)) ∧ Below W.heap.size W w') := fun W hI => HAh.out W (k + 1) hI
      obtain ⟨z, hze⟩ : ∃ z, z = ((zs.drop (a + 1)).drop (k + 1)).headD 0 := ⟨_, rfl⟩
      have HZ : Hid (z = ((zs.drop (a + 1)).drop (k + 1)).headD 0) := hze
      rw [← hze] at HA hz hin F1 F2
      clear hze
      have HF1 : Hid (∀ c, ((z = 110 ∧ c = 10) ∨ (z = 116 ∧ c = 9) ∨ ((z = 92 ∨ z = 34) ∧ c = z)) → Sc.TxtAt (zs.drop (a + 1)) (xs ++ [c]) (k + 2)) := F1
      have HF2 : Hid (z ≠ 120 → z ≠ 110 → z ≠ 116 → z ≠ 92 → z ≠ 34 → Sc.TxtBad (zs.drop (a + 1)) (k + 1)) := F2
      have HIN : Hid (z ≠ 0 → a + (k + 2) < zs.length) := hin
      have HG1 : Hid (((zs.drop (a + 1)).drop k).headD 0 = 92) := g1
      clear F1 F2 hin g1
      go_wp2_with fail
      refine (HA.out _ HI1.1).mono ?_
      rintro e w1 ⟨rfl, hb1⟩
      have HI2 := HI1.below hb1
      clear hb1 HA
      by_cases e1 : z = 120
      · have hl := HIN.out (by omega)
        have hz2 := HZ.out
        rw [e1] at hz2
        have HZ2 : Hid (((zs.drop (a + 1)).drop (k + 1)).headD 0 = 120) := hz2.symm
        clear hz2
        subst e1
        go_wp2_with fail
        go_step3
        exact ⟨⟨k, ov, xs, TxFr.mk rfl, .inr (.inr (.inl ⟨rfl, HI2, hxl, hd, HG1.out, HZ2.out⟩))⟩, by rw [txM_2, txM_4, HI2.pos, HPo.out]; omega⟩
      · have q1 : ((z : Int) == 120) = false := beq_eq_false_iff_ne.2 (by omega)
        by_cases e2 : z = 110
        · have hl := HIN.out (by omega)
          have hs := HF1.out 10 (.inl ⟨e2, rfl⟩)
          subst e2
          have HSl : Hid (Sl (w1.alloc (.cells #[.int .u8 10] 5)) (.slice (some ⟨w1.heap.size, 0, none⟩) 1 1) [10]) := sl_byte w1 (by decide)
          have HOA : Hid (Own (w1.alloc (.cells #[.int .u8 10] 5)) w.heap.size ov xs) := HI2.2.1.below ((Below.refl _ _).alloc (Nat.le_refl _) _)
          have HBase : Hid (w.heap.size ≤ w1.heap.size) := HI2.1.2.2.size
          go_wp2_with (at_builtin; refine wpList_append_sl (v := ov) (.tmp 53) (.tmp 55) (by rfl) rfl rfl HOA.out rfl HSl.out (by simp only [List.length_cons, List.length_nil]; omega) (by simp; exact Nat.le_succ_of_le HBase.out) ?_; intro v2 w2 h2 g2 l2; have HT2 : Hid (TxI w p v zs lv a w2 (k + 2) v2 (xs ++ [10])) := HI2.app hpl h2 g2 (by decide) (by omega); clear h2 g2 l2)
          go_step3
          exact ⟨⟨k + 2, v2, xs ++ [10], TxFr.mk rfl, .inl ⟨rfl, HT2.out, hl, hs⟩⟩, by rw [txM_2, txM_0, HT2.out.pos, HPo.out]; omega⟩
        · have q2 : ((z : Int) == 110) = false := beq_eq_false_iff_ne.2 (by omega)
          by_cases e3 : z = 116
          · have hl := HIN.out (by omega)
            have hs := HF1.out 9 (.inr (.inl ⟨e3, rfl⟩))
            subst e3
            have HSl : Hid (Sl (w1.alloc (.cells #[.int .u8 9] 5)) (.slice (some ⟨w1.heap.size, 0, none⟩) 1 1) [9]) := sl_byte w1 (by decide)
            have HOA : Hid (Own (w1.alloc (.cells #[.int .u8 9] 5)) w.heap.size ov xs) := HI2.2.1.below ((Below.refl _ _).alloc (Nat.le_refl _) _)
            have HBase : Hid (w.heap.size ≤ w1.heap.size) := HI2.1.2.2.size
            go_wp2_with (at_builtin; refine wpList_append_sl (v := ov) (.tmp 53) (.tmp 55) (by rfl) rfl rfl HOA.out rfl HSl.out (by simp only [List.length_cons, List.length_nil]; omega) (by simp; exact Nat.le_succ_of_le HBase.out) ?_; intro v2 w2 h2 g2 l2; have HT2 : Hid (TxI w p v zs lv a w2 (k + 2) v2 (xs ++ [9])) := HI2.app hpl h2 g2 (by decide) (by omega); clear h2 g2 l2)
            go_step3
            exact ⟨⟨k + 2, v2, xs ++ [9], TxFr.mk rfl, .inl ⟨rfl, HT2.out, hl, hs⟩⟩, by rw [txM_2, txM_0, HT2.out.pos, HPo.out]; omega⟩
          · have q3 : ((z : Int) == 116) = false := beq_eq_false_iff_ne.2 (by omega)
            by_cases e4 : z = 92
            · have hl := HIN.out (by omega)
              have hs := HF1.out z (.inr (.inr ⟨.inl e4, rfl⟩))
              subst e4
              have HSl : Hid (Sl (w1.alloc (.cells #[.int .u8 92] 5)) (.slice (some ⟨w1.heap.size, 0, none⟩) 1 1) [92]) := sl_byte w1 (by decide)
              have HOA : Hid (Own (w1.alloc (.cells #[.int .u8 92] 5)) w.heap.size ov xs) := HI2.2.1.below ((Below.refl _ _).alloc (Nat.le_refl _) _)
              have HBase : Hid (w.heap.size ≤ w1.heap.size) := HI2.1.2.2.size
              go_wp2_with (at_builtin; refine wpList_append_sl (v := ov) (.tmp 53) (.tmp 55) (by rfl) rfl rfl HOA.out rfl HSl.out (by simp only [List.length_cons, List.length_nil]; omega) (by simp; exact Nat.le_succ_of_le HBase.out) ?_; intro v2 w2 h2 g2 l2; have HT2 : Hid (TxI w p v zs lv a w2 (k + 2) v2 (xs ++ [92])) := HI2.app hpl h2 g2 (by decide) (by omega); clear h2 g2 l2)
              go_step3
              exact ⟨⟨k + 2, v2, xs ++ [92], TxFr.mk rfl, .inl ⟨rfl, HT2.out, hl, hs⟩⟩, by rw [txM_2, txM_0, HT2.out.pos, HPo.out]; omega⟩
            · have q4 : ((z : Int) == 92) = false := beq_eq_false_iff_ne.2 (by omega)
              by_cases e5 : z = 34
              · have hl := HIN.out (by omega)
                have hs := HF1.out z (.inr (.inr ⟨.inr e5, rfl⟩))
                subst e5
                have HSl : Hid (Sl (w1.alloc (.cells #[.int .u8 34] 5)) (.slice (some ⟨w1.heap.size, 0, none⟩) 1 1) [34]) := sl_byte w1 (by decide)
                have HOA : Hid (Own (w1.alloc (.cells #[.int .u8 34] 5)) w.heap.size ov xs) := HI2.2.1.below ((Below.refl _ _).alloc (Nat.le_refl _) _)
                have HBase : Hid (w.heap.size ≤ w1.heap.size) := HI2.1.2.2.size
                go_wp2_with (at_builtin; refine wpList_append_sl (v := ov) (.tmp 53) (.tmp 55) (by rfl) rfl rfl HOA.out rfl HSl.out (by simp only [List.length_cons, List.length_nil]; omega) (by simp; exact Nat.le_succ_of_le HBase.out) ?_; intro v2 w2 h2 g2 l2; have HT2 : Hid (TxI w p v zs lv a w2 (k + 2) v2 (xs ++ [34])) := HI2.app hpl h2 g2 (by decide) (by omega); clear h2 g2 l2)
                go_step3
                exact ⟨⟨k + 2, v2, xs ++ [34], TxFr.mk rfl, .inl ⟨rfl, HT2.out, hl, hs⟩⟩, by rw [txM_2, txM_0, HT2.out.pos, HPo.out]; omega⟩
              · have q5 : ((z : Int) == 34) = false := beq_eq_false_iff_ne.2 (by omega)
                have hs := HF2.out e1 e2 e3 e4 e5
                go_wp2_with fail
                go_step3
                exact ⟨⟨k + 1, ov, xs, TxFr.mk rfl, .inr (.inr (.inr (.inr ⟨rfl, HI2, hs⟩)))⟩, by rw [txM_2, txM_3]; omega⟩
    · refine ⟨_, rfl, ?_⟩
      have hbd : a + (k + 2) ≤ 1048576 := by have := HI.1.1; omega
      have hl0 := HIn.out (k + 1) (by rw [g2]; decide)
      have HI1 : TxI w p v zs lv a (W.setCell ⟨p, 1, none⟩ (.int .i64 ((a : Int) + ((k : Int) + 2) + 1))) (k + 3) ov xs := HI.move hpl 1 (by omega)
      have HPo : Hid (posOf W p = a + (k + 2)) := HI.pos
      have c1 := HI.1.2.1.cell1
      have t1 := HI.1.2.1.thawed 1
      have hz := HBy.out (k + 2)
      have hy := HBy.out (k + 3)
      have hin := HIn.out (k + 2)
      have hin3 := HIn.out (k + 3)
      have F1 := fun h3 => hd.hex1 g1 g2 h3
      have F2 := fun h3 h4 => hd.hex2 g1 g2 h3 h4
      have F3 := fun h3 h4 => hd.hex g1 g2 h3 h4
      have HA : Hid (∀ W, IntI w p v zs lv a W (k + 3) → Calls Tryd.prog 31 #[.pointer (some ⟨p, 0, none⟩)] W fun e w' => e = .returned (.int .u8 (((zs.drop (a + 1)).drop (k + 2)).headD 0 : Nat)) ∧ Below W.heap.size W w') := fun W hI => HAh.out W (k + 2) hI
      have HA3 : Hid (∀ W, IntI w p v zs lv a W (k + 4) → Calls Tryd.prog 31 #[.pointer (some ⟨p, 0, none⟩)] W fun e w' => e = .returned (.int .u8 (((zs.drop (a + 1)).drop (k + 3)).headD 0 : Nat)) ∧ Below W.heap.size W w') := fun W hI => HAh.out W (k + 3) hI
      generalize ((zs.drop (a + 1)).drop (k + 2)).headD 0 = z at *
      generalize ((zs.drop (a + 1)).drop (k + 3)).headD 0 = y at *
      have HV : Hid (∀ W, Calls Tryd.prog 48 #[.int .u8 (z : Int)] W fun e w' => e = .returned (.int .u64 (Sc.value z : Nat)) ∧ w' = W) := fun W => value_any hz W
      have HV3 : Hid (∀ W, Calls Tryd.prog 48 #[.int .u8 (y : Int)] W fun e w' => e = .returned (.int .u64 (Sc.value y : Nat)) ∧ w' = W) := fun W => value_any hy W
      have n1 : ¬ 15 < Sc.value z → z ≠ 0 := fun h e => h (by rw [e]; decide)
      have n2 : ¬ 15 < Sc.value y → y ≠ 0 := fun h e => h (by rw [e]; decide)
      have HF1 : Hid (15 < Sc.value z → Sc.TxtBad (zs.drop (a + 1)) (k + 2)) := F1
      have HF2 : Hid (¬ 15 < Sc.value z → 15 < Sc.value y → Sc.TxtBad (zs.drop (a + 1)) (k + 3)) := F2
      have HF3 : Hid (¬ 15 < Sc.value z → ¬ 15 < Sc.value y → Sc.TxtAt (zs.drop (a + 1)) (xs ++ [16 * Sc.value z + Sc.value y]) (k + 4)) := F3
      have HIN : Hid (¬ 15 < Sc.value z → a + (k + 3) < zs.length) := fun h => hin (n1 h)
      have HIN3 : Hid (¬ 15 < Sc.value y → a + (k + 4) < zs.length) := fun h => hin3 (n2 h)
      clear F1 F2 F3 hin hin3 n1 n2 g1 g2
      have v1 := Sc.value_le z
      have v2 := Sc.value_le y
      generalize Sc.value z = dh at *
      generalize Sc.value y = dl at *
      go_wp2_with fail
      refine (HA.out _ HI1.1).mono ?_
      rintro e w1 ⟨rfl, hb1⟩
      have HIa := HI1.below hb1
      clear hb1 HA
      go_wp2_with fail
      refine (HV.out _).mono ?_
      rintro e w3 ⟨rfl, rfl⟩
      by_cases e1 : 15 < dh
      · have hs := HF1.out e1
        go_wp2_with fail
        go_step3
        exact ⟨⟨k + 2, ov, xs, TxFr.mk rfl, .inr (.inr (.inr (.inr ⟨rfl, HIa, hs⟩)))⟩, by rw [txM_4, txM_3]; omega⟩
      · have hl1 := HIN.out e1
        have HIb : TxI w p v zs lv a (w3.setCell ⟨p, 1, none⟩ (.int .i64 ((a : Int) + ((k : Int) + 3) + 1))) (k + 4) ov xs := HIa.move hpl 1 (by omega)
        have c1 := HIa.1.2.1.cell1
        have t1 := HIa.1.2.1.thawed 1
        go_wp2_with fail
        refine (HA3.out _ HIb.1).mono ?_
        rintro e w1 ⟨rfl, hb1⟩
        have HI2 := HIb.below hb1
        clear hb1 HA3
        go_wp2_with fail
        refine (HV3.out _).mono ?_
        rintro e w3 ⟨rfl, rfl⟩
        by_cases e2 : 15 < dl
        · have hs := HF2.out e1 e2
          go_wp2_with fail
          go_step3
          exact ⟨⟨k + 3, ov, xs, TxFr.mk rfl, .inr (.inr (.inr (.inr ⟨rfl, HI2, hs⟩)))⟩, by rw [txM_4, txM_3]; omega⟩
        · have hs := HF3.out e1 e2
          have hl := HIN3.out e2
          have hor := or_four dh dl (by omega) (by omega)
          have hz2 : 16 * dh + dl < 256 := by omega
          generalize 16 * dh + dl = z2 at *
          have HSl : Hid (Sl (w3.alloc (.cells #[.int .u8 (z2 : Int)] 5)) (.slice (some ⟨w3.heap.size, 0, none⟩) 1 1) [z2]) := sl_byte w3 hz2
          have HOA : Hid (Own (w3.alloc (.cells #[.int .u8 (z2 : Int)] 5)) w.heap.size ov xs) := HI2.2.1.below ((Below.refl _ _).alloc (Nat.le_refl _) _)
          have HBase : Hid (w.heap.size ≤ w3.heap.size) := HI2.1.2.2.size
          go_wp2_with (at_builtin; refine wpList_append_sl (v := ov) (.tmp 81) (.tmp 87) (by rfl) rfl rfl HOA.out rfl HSl.out (by simp only [List.length_cons, List.length_nil]; omega) (by simp; exact Nat.le_succ_of_le HBase.out) ?_; intro v2 w2 h2 g2 l2; have HT2 : Hid (TxI w p v zs lv a w2 (k + 4) v2 (xs ++ [z2])) := HI2.app hpl h2 g2 hz2 (by omega); clear h2 g2 l2)
          go_step3
          exact ⟨⟨k + 4, v2, xs ++ [z2], TxFr.mk rfl, .inl ⟨rfl, HT2.out, hl, hs⟩⟩, by rw [txM_4, txM_0, HT2.out.pos, HPo.out]; omega⟩
    · refine ⟨_, rfl, ?_⟩
      have hbd : a + (k + 1) ≤ 1048576 := by have := HI.1.1; omega
      have HI1 : TxI w p v zs lv a (W.setCell ⟨p, 1, none⟩ (.int .i64 ((a : Int) + ((k : Int) + 1) + 1))) (k + 2) ov xs := HI.move hpl 1 (by omega)
      have c1 := HI.1.2.1.cell1
      have t1 := HI.1.2.1.thawed 1
      have hcv := conv_str (HI1.2.1.sl HI1.2.2.1)
      have HR : Hid (Sc.textF (zs.drop (a + 1)) = .ok xs (k + 1)) := hd
      clear hd
      go_wp2_with fail
      rw [Jumps_ret]
      go_ret2
      rw [HR.out]
      exact ⟨rfl, HI1.1.2.1, HI1.1.2.2⟩
    · refine ⟨_, rfl, ?_⟩
      have HR : Hid (Sc.textF (zs.drop (a + 1)) = .bad k) := hd
      clear hd
      go_wp2_with fail
      rw [Jumps_ret]
      go_ret2
      rw [HR.out]
      exact ⟨rfl, HI.1.2.1, HI.1.2.2⟩
  · intro hpass
    subst ha0
    have HP : Hid (∀ l ac W, TxJ w p v zs lv a l ac W → _) := hpass
    clear hpass
    go_wp2_with fail
    go_step3
    rename_i K hK
    refine hK _ _ ?_
    refine (HP.out 0 _ _ ?_).code ?_
    rotate_left
    · rfl
    exact ⟨0, _, [], TxFr.mk rfl, .inl ⟨rfl, ⟨⟨by omega, HC.out, Keeps.refl _ _⟩, own_nil _ _, by simp, by simp⟩, by omega, Sc.TxtAt.begin _⟩⟩
end Go.Proofs.YtlhecgokedckdaaDoor
