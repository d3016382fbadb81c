import Derived.Test.YtfnikcjcgneboaaGreatPk10
/- Store. Own work. -/
namespace Go.Proofs.YtfnikcjcgneboaaGreat
open Go.RowKit Go.Maps Go.Proofs.YtfnikcjcgneboaaGreat.Sp
def StorePost (w : World) (m B : Nat) (V : Value × Value × Value) (T : Nat → Option Nat) (M : Nat → Nat) (rs ds : List Sp) (L S X a n v : Nat) (e : Ending) (w' : World) : Prop :=
  ∃ x b, OffR (rs ++ ds) a n x b ∧ e = .returned (FaultV (if b then 30 else 0) x) ∧ Keeps (fun j => j = m ∨ Foot B T j) w w' ∧ (b = true → Mac w' m B V T M rs ds L S (X + 1)) ∧ (b = false → ∃ T', Mac w' m B V T' (putAt M a ((Pl.le 8 v).take n)) rs ds L (S + 1) X ∧ Grows w.heap.size T T')
set_option maxRecDepth 100000 in
set_option maxHeartbeats 4000000 in
theorem store_any {w : World} {m B : Nat} {V : Value × Value × Value} {T : Nat → Option Nat} {M : Nat → Nat} {rs ds : List Sp} {L S X a n v : Nat} (h : Mac w m B V T M rs ds L S X) (ha : a ≤ 18446744073709551615) (hn : Wide n) (hv : v ≤ 18446744073709551615) (hX : X ≤ 4611686018427387904) (hS : S ≤ 4611686018427387904) :
    Calls Tryz.prog 22 #[.pointer (some ⟨m, 0, none⟩), .int .u64 (a : Int), .int .i64 (n : Int), .int .u64 (v : Int)] w (StorePost w m B V T M rs ds L S X a n v) := by
  have HA : Hid (∀ W, Below w.heap.size w W → Calls Tryz.prog 51 #[.pointer (some ⟨m, 0, none⟩), .int .u64 (a : Int), .int .i64 (n : Int)] W (AskPost W m B V T M rs ds L S X a n)) := fun W hW => askWidth_any (h.below hW) ha hn hX
  have HM : Hid (Mac w m B V T M rs ds L S X) := h
  have hml := h.lt
  clear h
  go_enter Tryz.func22, Tryz.ntmps22
  go_wp2_with fail
  refine (HA.out _ ((Below.refl _ _).alloc (Nat.le_refl _) _)).mono ?_
  rintro e w1 ⟨x, b, ho, rfl, hm1, hk1⟩
  have HOff : Hid (OffR (rs ++ ds) a n x b) := ho
  have HX1 : Hid (BoxF w1 w.heap.size 0 0) := (BoxF.new w 0 0).keeps hk1 (by omega)
  have HM1 : Hid (Mac w1 m B V T M rs ds L S (up b X)) := hm1
  have HK1 : Hid (Keeps (fun j => j = m) w w1) := (Keeps.alloc (S := fun j => j = m) w _).trans hk1 (fun _ _ e => e)
  have hne : w.heap.size ≠ w1.heap.size := Nat.ne_of_lt HX1.out.lt
  have hlt1 := HX1.out.lt
  clear ho hm1 hk1 HA
  unfold FaultV
  cases b with
  | true =>
    simp only [if_true]
    obtain ⟨x0, x1, f0, f1⟩ := HX1.out.cells
    have y0 := fun X => (HX1.out.below ((Below.refl _ _).alloc (Nat.le_refl _) X)).cells.1
    have y1 := fun X => (HX1.out.below ((Below.refl _ _).alloc (Nat.le_refl _) X)).cells.2.1
    have y2 := fun X => (HX1.out.below ((Below.refl _ _).alloc (Nat.le_refl _) X)).cells.2.2.1
    have y3 := fun X => (HX1.out.below ((Below.refl _ _).alloc (Nat.le_refl _) X)).cells.2.2.2
    go_wp2_with fail
    have hbx := (HX1.out.set 30 x).below ((Below.refl _ _).alloc (Nat.le_refl _) (Obj.cells #[.int .i64 30, .int .u64 x] 68))
    obtain ⟨d0, d1, _⟩ := hbx.cells
    refine bodyPost_ret (v := .agg #[.int .i64 30, .int .u64 x]) (by simp [results, Tryz.results22, go_sem, d0, d1]) rfl ?_
    have hk2 : Keeps (fun j => j = w.heap.size) w1 (((w1.setCell ⟨w.heap.size, 0, none⟩ (.int .i64 30)).setCell ⟨w.heap.size, 1, none⟩ (.int .u64 x)).alloc (Obj.cells #[.int .i64 30, .int .u64 x] 68)) := (Keeps.two w1 w.heap.size (.int .i64 30) (.int .u64 x)).trans (Keeps.alloc (S := fun _ => False) _ _) (fun _ _ h => h.elim)
    exact ⟨x, true, HOff.out, rfl, (HK1.out.mono (fun _ _ e => .inl e)).trans hk2 (fun i hi e => absurd e (by omega)), fun _ => HM1.out.keeps hk2 (fun j hj e => by have := HM.out.mine_lt hj; omega), fun h => by cases h⟩
  | false =>
    simp only [Bool.false_eq_true, if_false]
    have hn0 : 0 < n ∧ n ≤ 8 := by rcases hn with h | h | h | h <;> omega
    have HLow : Hid (a + n ≤ 4294967296) := off_low HOff.out HM.out hn0.1
    have HXz : Hid (x = 0) := (HOff.out.2 rfl).1
    go_wp2_with fail
    obtain ⟨W2, hW2⟩ : ∃ W2, w1.alloc (Obj.cells #[.int .i64 0, .int .u64 x] 68) = W2 := ⟨_, rfl⟩
    have HB2 : Hid (Below w1.heap.size w1 W2) := hW2 ▸ (Below.refl _ _).alloc (Nat.le_refl _) _
    have HX2 : Hid (BoxF W2 w.heap.size 0 0) := HX1.out.below HB2.out
    have HM2 : Hid (Mac W2 m B V T M rs ds L S X) := HM1.out.below HB2.out
    rw [hW2]
    clear hW2
    have c6 := HM2.out.cells.2.2.2.1
    have HPut : Hid (Calls Tryz.prog 53 #[.slice none 0 0, .int .u64 (v : Int)] W2.drew fun e w3 => ∃ g cap, e = .returned (.slice (some ⟨g, 0, none⟩) 8 cap) ∧ n ≤ cap ∧ cap ≤ 9223372036854775807 ∧ w3.cell? ⟨m, 6, none⟩ = some (.map (some B)) ∧ Hid (Below W2.heap.size W2 w3) ∧ Hid (Sl w3 (.slice (some ⟨g, 0, none⟩) 8 cap) (Pl.le 8 v) ∧ W2.heap.size ≤ g ∧ g < w3.heap.size)) := by
      refine (put_nil W2.drew hv).mono ?_
      rintro e w3 ⟨v3, rfl, ho3, hb3⟩
      have hsl := ho3.sl (Pl.le_small 8 v)
      obtain ⟨g, cap, e, hg1, hg2, hg3, hg4⟩ := ho3.form (by rw [Pl.le_length]; omega)
      rw [Pl.le_length] at e hg3
      subst e
      unfold maxLen at hg4
      refine ⟨g, cap, rfl, by omega, by omega, ?_, ⟨hb3.os, hb3.tape, hb3.output, hb3.size, hb3.block⟩, hsl, hg1, hg2⟩
      exact (hb3.cell (World.block_lt_of_cell? W2 _ c6)).trans c6
    have HLay : Hid (∀ w3 g cap, Below W2.heap.size W2 w3 → Sl w3 (.slice (some ⟨g, 0, none⟩) 8 cap) (Pl.le 8 v) ∧ W2.heap.size ≤ g ∧ g < w3.heap.size → Calls Tryz.prog 52 #[.map (some B), .int .u64 (a : Int), .slice (some ⟨g, 0, none⟩) n cap] w3 fun e w4 => e = .returned (.tuple #[]) ∧ w4.cell? ⟨m, 6, none⟩ = some (.map (some B)) ∧ Hid (∃ T', Held w4 B T' (putAt M a ((Pl.le 8 v).take n)) ∧ Keeps (Foot B T) w3 w4 ∧ Grows w3.heap.size T T')) := fun w3 g cap hb3 ⟨h1, h2, h3⟩ => by
      have hl8 : ((Pl.le 8 v).take n).length = n := by rw [List.length_take, Pl.le_length]; omega
      have h1' : Sl w3 (.slice (some ⟨g, 0, none⟩) (Pl.le 8 v).length cap) (Pl.le 8 v) := by rw [Pl.le_length]; exact h1
      have hs := h1'.front n (by rw [Pl.le_length]; omega)
      have := lay_some (zs := (Pl.le 8 v).take n) (a := a) (HM2.out.below hb3).held (by rw [hl8]; exact HLow.out) (by rw [hl8]; exact hs) (fun hf => by have := HM2.out.held.foot_lt hf; omega) h3
      rw [hl8] at this
      refine this.mono ?_
      rintro e w4 ⟨rfl, T', h4, h5, h6⟩
      refine ⟨rfl, ?_, T', h4, h5, h6⟩
      have hM3 := HM2.out.below hb3
      have c63 := hM3.cells.2.2.2.1
      refine (World.cell?_of_block (w := w3) (a := ⟨m, 6, none⟩) (h5.block m hM3.lt ?_)).trans c63
      obtain ⟨_, _, _, _, _, _, _, _, _, _, h9, _⟩ := hM3
      exact h9
    go_region_held3 (fun w' => w'.cell? ⟨m, 6, none⟩ = some (.map (some B))) (go_keep) (first | (go_at_call 53; refine HPut.out.mono ?_; rintro e w3 ⟨g, cap, rfl, hc1, hc2, c63, HB3, HS3⟩) | (go_at_call 52; refine (HLay.out _ _ _ HB3.out HS3.out).mono ?_; rintro e w4 ⟨rfl, c64, HL4⟩))
    obtain ⟨T', hH4, hK4, hG4⟩ := HL4.out
    have HM4 : Hid (Mac w4 m B V T' (putAt M a ((Pl.le 8 v).take n)) rs ds L S X) := (HM2.out.below HB3.out).laid hH4 hK4 hG4
    have hXf : ¬ Foot B T w.heap.size := fun hf => by have := HM.out.held.foot_lt hf; omega
    have HX4 : Hid (BoxF w4 w.heap.size 0 0) := (HX2.out.below HB3.out).keeps hK4 hXf
    have HK4 : Hid (Keeps (fun j => j = m ∨ Foot B T j) w w4) := ((HK1.out.mono (fun _ _ e => .inl e)).trans (Keeps.of_below (S := fun _ => False) (HB2.out.trans (HB3.out.mono HB2.out.size))) (fun _ _ h => h.elim)).trans hK4 (fun _ _ h => .inr h)
    have HG4 : Hid (Grows w.heap.size T T') := fun k g' e => (hG4 k g' e).imp id (fun h => by have := HB2.out.size; have := HB3.out.size; omega)
    have HNb : Hid (¬ Foot B T' w.heap.size) := fun hf => hXf (hG4.foot hf (by have := HB2.out.size; have := HB3.out.size; omega))
    have c1 := HM4.out.cells.2.1
    have g1 := HM4.out.cells.2.2.2.2 1
    obtain ⟨x0, x1, f0, f1⟩ := HX4.out.cells
    have HX5 : Hid (BoxF (w4.setCell ⟨m, 1, none⟩ (.int .i64 ((S : Int) + 1))) w.heap.size 0 0) := HX4.out.keeps (Keeps.setCell _ _ _ _) (by omega)
    obtain ⟨z0, z1, k0, k1⟩ := HX5.out.cells
    clear hH4 hK4 hG4 c6 c63 c64 HPut HLay HL4
    go_wp2_with fail
    obtain ⟨d0, d1, _⟩ := (HX5.out.set 0 0).cells
    refine bodyPost_ret (v := .agg #[.int .i64 0, .int .u64 0]) (by simp [results, Tryz.results22, go_sem, d0, d1]) rfl ?_
    have hk5 := Keeps.setCell w4 m 1 (.int .i64 ((S : Int) + 1))
    have hk6 := Keeps.two (w4.setCell ⟨m, 1, none⟩ (.int .i64 ((S : Int) + 1))) w.heap.size (.int .i64 0) (.int .u64 0)
    have hm5 : Mac (w4.setCell ⟨m, 1, none⟩ (.int .i64 ((S : Int) + 1))) m B V T' (putAt M a ((Pl.le 8 v).take n)) rs ds L (S + 1) X := HM4.out.recount hk5 (fun h0 => by
      simp only [World.setCell, Array.getElem?_modify]
      rw [if_pos trivial, h0]
      simp)
    refine ⟨x, false, HOff.out, by rw [HXz.out]; rfl, (HK4.out.trans hk5 (fun _ _ e => .inl e)).trans hk6 (fun i hi e => absurd e (by omega)), fun h => (by cases h), fun _ => ⟨T', hm5.keeps hk6 (fun j hj e => ?_), HG4.out⟩⟩
    subst e
    rcases hj with h | h | ⟨u, hu, e⟩
    · omega
    · exact HNb.out h
    · have := HM.out.mine_lt (.inr (.inr ⟨u, hu, e⟩)); omega
end Go.Proofs.YtfnikcjcgneboaaGreat
