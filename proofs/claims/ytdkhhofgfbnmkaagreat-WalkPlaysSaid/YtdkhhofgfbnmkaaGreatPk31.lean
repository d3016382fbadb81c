import Derived.Test.YtdkhhofgfbnmkaaGreatPk29
import Derived.Test.YtdkhhofgfbnmkaaGreatPk30
/- The document's own machine with pages: its Store of eight bytes. Own work. -/
namespace Go.Proofs.YtdkhhofgfbnmkaaGreat
open Go.RowKit Go.Maps Go.Proofs.YtdkhhofgfbnmkaaGreat.Sp Wk
set_option maxHeartbeats 1000000 in
theorem right_eight (w : World) : Calls Tryz.prog 32 #[.int .i64 8] w fun e w' => e = .returned (.bool true) ∧ w' = w := by
  go_enter Tryz.func32, Tryz.ntmps32
  go_wp2_with fail
  go_ret
  exact ⟨rfl, rfl⟩
theorem RS.box {w w' : World} {base v : Nat} {vr vd vp : Value} {ps : List (Int × Nat)} {L S X L' S' X' : Nat} (h : RS w base v vr vd vp ps L S X) (hk : Keeps (fun j => j = v) w w') (hb : RBox w' v vr vd vp L' S' X') : RS w' base v vr vd vp ps L' S' X' ∧ Kv base w w' := by
  obtain ⟨h0, h1, h2, h3⟩ := h
  refine ⟨⟨h0, hb, h2.keeps hk (fun k e e' => ?_), fun x hx => ⟨(h3 x hx).1, (h3 x hx).2.keeps hk (fun e => ?_)⟩⟩, Kv.of hk (fun k _ e => ?_)⟩
  · have e' : k = v := e'
    obtain ⟨_, _, _, _, _, hf⟩ := h2.form
    obtain ⟨_, cur, hc⟩ := hf k e
    rw [e', show w.heap[v]? = _ from h1] at hc
    cases hc
  · have e : x.2 = v := e
    obtain ⟨cur, hc, _⟩ := (h3 x hx).2
    rw [e, show w.heap[v]? = _ from h1] at hc
    cases hc
  · have e : k = v := e
    subst e
    exact ⟨h0, _, _, _, h1, .inl rfl⟩
theorem Own.u8 {w : World} {base g n cap : Nat} {xs : List Nat} (h : Own w base (.slice (some ⟨g, 0, none⟩) n cap) xs) (hz : ∀ z ∈ xs, z < 256) : U8 w g n := by
  rcases h.2 with ⟨hv, _⟩ | ⟨g', cap', cur, hv, hb, hg, hnc, hcm, hcs, ht⟩
  · cases hv
  · cases hv
    refine ⟨cur, hg, fun i hi => ?_⟩
    refine ⟨xs[i], hz _ (List.getElem_mem hi), ?_⟩
    have h1 := h.cell i hi
    rw [cell_of_row _ _ _ _ _ _ hg] at h1
    rw [h1, List.getD_eq_getElem?_getD, List.getElem?_eq_getElem hi]
    rfl
theorem BoxG.notVB {w : World} {b base : Nat} {x y : Int} (h : BoxG w b x y) : ∀ j, VB base w j → ¬ j = b := by
  rintro j ⟨_, c, t, fr, hc, ht⟩ rfl
  rw [show w.heap[j]? = _ from h] at hc
  cases hc
  rcases ht with ht | ht | ht <;> cases ht
theorem Kv.after {base : Nat} {w W W' : World} {Z : Nat → Prop} (h : Kv base w W) (k : Keeps Z W W') (hz : ∀ j, j < w.heap.size → ¬ Z j) : Kv base w W' := Keeps.trans h k (fun i hi e => absurd e (hz i hi))
/-- what the document's own Store keeps -/
def RSt (w : World) (base v : Nat) (vr vd : Value) (L S X : Nat) (e : Ending) (w' : World) : Prop := (∃ f, e = .returned f) ∧ ∃ vp' ps' S' X', RS w' base v vr vd vp' ps' L S' X' ∧ Pn ps' ∧ S' ≤ S + 1 ∧ X' ≤ X + 1 ∧ Kv base w w'
set_option maxRecDepth 100000 in
set_option maxHeartbeats 2000000 in
theorem rstore_any {w : World} {base v : Nat} {vr vd vp : Value} {ps : List (Int × Nat)} {rs ds : List Sp} {L S X a val : Nat} (h : RS w base v vr vd vp ps L S X) (hb : base ≤ w.heap.size) (hr : U64.SV w vr rs) (hd : U64.SV w vd ds) (hs : Sane (rs ++ ds)) (hll : rs.length + ds.length ≤ 64) (ha : a ≤ 18446744073709551615) (hl : Pn ps) (hX : X ≤ 4611686018427387904) (hS : S ≤ 4611686018427387904) :
    Calls Tryz.prog 11 #[.pointer (some ⟨v, 0, none⟩), .int .u64 (a : Int), .int .i64 8, .int .u64 (val : Int)] w (RSt w base v vr vd L S X) := by
  have HR := Lib.hid h
  have HAc : Hid (∀ W, Below w.heap.size w W → Calls Tryz.prog 33 #[.pointer (some ⟨v, 0, none⟩), .int .u64 (a : Int), .int .i64 ((8 : Nat) : Int)] W (RAsk W v vr vd vp (rs ++ ds) L S X a 8)) := fun W hW => raccess_any (h.2.1.below hW) (hr.below hW (Nat.le_refl _)) (hd.below hW (Nat.le_refl _)) hs hll ha (by omega) hX
  have HS := Lib.hid hs
  have HPn := Lib.hid hl
  have hvl := h.2.1.lt
  generalize rs ++ ds = LL at *
  clear h hr hd hs hll hl
  go_enter Tryz.func11, Tryz.ntmps11
  go_wp2_with fail
  refine (right_eight _).mono ?_
  rintro e w1 ⟨rfl, rfl⟩
  go_wp2_with fail
  refine (HAc.out _ ((Below.refl _ _).alloc (Nat.le_refl _) _)).mono ?_
  rintro e w1 ⟨x, b, hoff, rfl, hbx, hk1⟩
  have HXX : Hid (x = x) := rfl
  have hkw : Keeps (fun j => j = v) w w1 := (Keeps.alloc (S := fun j => j = v) w _).trans hk1 (fun _ _ e => e)
  have HX1 : Hid (BoxG w1 w.heap.size 0 0) := (BoxG.new w 0 0).keeps hk1 (show ¬ w.heap.size = v by omega)
  obtain ⟨r1, k1⟩ := HR.out.box hkw hbx
  have HR1 := Lib.hid r1
  have HK1 := Lib.hid k1
  have hlt1 := HX1.out.lt
  have HOf := Lib.hid hoff
  clear hkw hbx hk1 r1 k1 HAc HR hoff
  obtain ⟨W3, hW3⟩ : ∃ W3, w1.alloc (Obj.cells #[.int .i64 (if b = true then 30 else 0), .int .u64 x] 41) = W3 := ⟨_, rfl⟩
  have HB3 : Hid (Below w1.heap.size w1 W3) := hW3 ▸ (Below.refl _ _).alloc (Nat.le_refl _) _
  have HF3 : Hid (BoxG W3 w1.heap.size (if b = true then 30 else 0) x) := hW3 ▸ BoxG.new w1 _ _
  have HX3 : Hid (BoxG W3 w.heap.size 0 0) := HX1.out.below HB3.out
  have HR3 : Hid (RS W3 base v vr vd vp ps L S (up b X)) := HR1.out.below HB3.out
  have HK3 : Hid (Kv base w W3) := HK1.out.trans (Kv.below HB3.out)
  have hne : w.heap.size ≠ w1.heap.size := by omega
  have hbs : base ≤ W3.heap.size := by have := HB3.out.size; omega
  have hl3 : w1.heap.size < W3.heap.size := HF3.out.lt
  clear HX1 HR1 HK1 HB3
  unfold FaultV
  cases b with
  | true =>
    simp only [if_true] at hW3 HF3
    obtain ⟨x0, x1, f0, f1⟩ := HX3.out.cells
    obtain ⟨y0, y1, _, _⟩ := HF3.out.cells
    go_wp2_with fail
    clear hW3
    obtain ⟨d0, d1, _⟩ := (HX3.out.set 30 x).cells
    refine bodyPost_ret (v := .agg #[.int .i64 30, .int .u64 x]) (by simp [results, Tryz.results11, go_sem, d0, d1]) rfl ?_
    have hk2 := Keeps.two W3 w.heap.size (.int .i64 30) (.int .u64 x)
    exact ⟨⟨_, rfl⟩, vp, ps, S, X + 1, HR3.out.keeps hk2 HX3.out.notVB, HPn.out, by omega, by omega, HK3.out.after hk2 (fun j hj e => by omega)⟩
  | false =>
    obtain ⟨rfl, hon⟩ := HOf.out.2 rfl
    have ha8 : (a : Int) ≤ 4294967296 := on_le HS.out (hon 0 (by omega))
    clear hon
    simp only [if_false, Bool.false_eq_true] at hW3 HF3
    have HW3 := Lib.hid hW3
    have HW4 : Hid (BoxG (w1.alloc (Obj.cells #[.int .i64 0, .int .u64 0] 41)) w1.heap.size 0 0) := BoxG.new w1 0 0
    clear hW3
    go_wp2_with fail
    go_loopw [10, 11] (fun bv iv wr => ∃ i : Nat, i ≤ 8 ∧ iv = .int .i64 (i : Int) ∧ ∃ a1 n1 c1, bv = .slice a1 n1 c1 ∧ Hid (∃ xs : List Nat, xs.length = i ∧ (∀ z ∈ xs, z < 256) ∧ Own wr W3.heap.size (.slice a1 n1 c1) xs) ∧ Hid (Below W3.heap.size W3 wr)) (fun _ iv _ => 8 - (intOf iv).toNat)
    case atStart => exact ⟨0, by omega, rfl, none, 0, 0, rfl, ⟨[], rfl, by simp, own_nil _ _⟩, HW3.out ▸ Below.refl _ _⟩
    case round =>
      obtain ⟨i, hi, rfl, a1, n1, c1, rfl, HO, HB⟩ := hrel
      by_cases hlt : i < 8
      · obtain ⟨xs, hxl, hxs, hown⟩ := HO.out
        have HO1 := Lib.hid hown
        have HXs := Lib.hid hxs
        have HXl := Lib.hid hxl
        clear HO hown hxs hxl
        have qi : (i : Int) < 8 := by omega
        obtain ⟨r, hrr⟩ : ∃ r : Nat, (val : Int) / 2 ^ (8 * i) = (r : Int) := ⟨val / 2 ^ (8 * i), by rw [Int.natCast_ediv, Int.natCast_pow]; rfl⟩
        have hba : Below W3.heap.size W3 (wr.alloc (Obj.cells #[.int .u8 ((r : Int) % 256)] 5)) := HB.out.alloc HB.out.size _
        have F1 : Hid (Own (wr.alloc (Obj.cells #[.int .u8 ((r : Int) % 256)] 5)) W3.heap.size (.slice a1 n1 c1) xs) := HO1.out.below ((Below.refl _ _).alloc (Nat.le_refl _) _)
        have F2 : Hid (Sl (wr.alloc (Obj.cells #[.int .u8 ((r : Int) % 256)] 5)) (.slice (some ⟨wr.heap.size, 0, none⟩) 1 1) [r % 256]) := sl_one wr r
        have F6 : Hid (xs.length + [r % 256].length ≤ 1099511627776) := by show _ ≤ _; rw [HXl.out]; simp; omega
        have F7 : Hid (W3.heap.size ≤ (wr.alloc (Obj.cells #[.int .u8 ((r : Int) % 256)] 5)).heap.size) := hba.size
        have HBa := Lib.hid hba
        clear hba
        go_wp2_with (refine wpList_append_sl (.tmp 30) (.tmp 37) rfl rfl rfl F1.out rfl F2.out F6.out F7.out ?_)
        intro v' w5 ho hg5 ho3
        obtain ⟨a', n', c', rfl⟩ : ∃ a n c, v' = .slice a n c := by
          rcases ho.2 with ⟨rfl, _⟩ | ⟨g, cap, cur, rfl, _⟩
          · exact ⟨_, _, _, rfl⟩
          · exact ⟨_, _, _, rfl⟩
        have HO5 : Hid (∃ xs : List Nat, xs.length = i + 1 ∧ (∀ z ∈ xs, z < 256) ∧ Own w5 W3.heap.size (.slice a' n' c') xs) := ⟨xs ++ [r % 256], by rw [List.length_append, HXl.out]; rfl, fun z hz => by
          rcases List.mem_append.1 hz with hz | hz
          · exact HXs.out z hz
          · rw [List.mem_singleton.1 hz]; omega, ho⟩
        have HB5 : Hid (Below W3.heap.size W3 w5) := HBa.out.grown hg5 F7.out (fun k e => (F1.out.lt k e).1)
        clear ho hg5 ho3
        go_wp2_with fail
        exact ⟨⟨i + 1, by omega, by go_num, a', n', c', rfl, HO5, HB5⟩, by simp [intOf]; omega⟩
      · obtain rfl : i = 8 := by omega
        obtain ⟨xs, hxl, hxs, hown⟩ := HO.out
        obtain ⟨g, cap, hv, hg0, hg1, hg2, hg3⟩ := hown.form (by omega)
        rw [hxl] at hv hg2
        cases hv
        have HU := hown.u8 hxs
        have HRr := HR3.out.below HB.out
        have HLy : Hid (Calls Tryz.prog 34 #[.pointer (some ⟨v, 0, none⟩), .int .u64 (a : Int), .slice (some ⟨g, 0, none⟩) 8 c1, .int .i64 ((8 : Nat) : Int), .int .u8 0] wr fun e w' => e = .returned (.tuple #[]) ∧ ∃ vp' ps', RS w' base v vr vd vp' ps' L S X ∧ Pn ps' ∧ Kv base wr w') := rlay_any HRr (Nat.le_trans hbs HB.out.size) HU (by omega) hg2 (by omega) HPn.out
        have hwb : W3.heap.size ≤ wr.heap.size := HB.out.size
        clear HO hxl hxs hown HU HRr hg0 hg1 hg2 hg3
        go_wp2_with fail
        refine HLy.out.mono ?_
        rintro e w6 ⟨rfl, vp', ps', hr6, hl6, hk6⟩
        have HR6 := Lib.hid hr6
        have HL6 := Lib.hid hl6
        have HK6 := Lib.hid hk6
        have HX6 : Hid (BoxG w6 w.heap.size 0 0) := (HX3.out.below HB.out).keeps hk6 (fun e => (HX3.out.below HB.out).notVB _ e rfl)
        have HF6 : Hid (BoxG w6 w1.heap.size 0 0) := (HF3.out.below HB.out).keeps hk6 (fun e => (HF3.out.below HB.out).notVB _ e rfl)
        clear HLy hr6 hl6 hk6
        obtain ⟨_, _, _, _, c4, _⟩ := HR6.out.2.1.cells
        have f4 := HR6.out.2.1.thawed 4
        obtain ⟨x0, x1, f0, f1⟩ := HX6.out.cells
        obtain ⟨y0, y1, _, _⟩ := HF6.out.cells
        have hv1 : v ≠ w.heap.size := by omega
        have hv2 : v ≠ w1.heap.size := by omega
        go_wp2_with fail
        have hk7 := Keeps.setCell w6 v 4 (.int .i64 ((S : Int) + 1))
        have hx7 : BoxG (w6.setCell ⟨v, 4, none⟩ (.int .i64 ((S : Int) + 1))) w.heap.size 0 0 := HX6.out.keeps hk7 (fun e => hv1 (show w.heap.size = v from e).symm)
        have hb7 : RBox (w6.setCell ⟨v, 4, none⟩ (.int .i64 ((S : Int) + 1))) v vr vd vp' L (S + 1) X := by
          have h1 : w6.heap[v]? = _ := HR6.out.2.1
          simp [RBox, World.setCell, Array.getElem?_modify, h1]
        obtain ⟨r7, k7⟩ := HR6.out.box hk7 hb7
        generalize w6.setCell ⟨v, 4, none⟩ (.int .i64 ((S : Int) + 1)) = W7 at *
        obtain ⟨d0, d1, _⟩ := (hx7.set 0 0).cells
        refine bodyPost_ret (v := .agg #[.int .i64 0, .int .u64 0]) (by simp [results, Tryz.results11, go_sem, d0, d1]) rfl ?_
        have hk8 := Keeps.two W7 w.heap.size (.int .i64 0) (.int .u64 0)
        exact ⟨⟨_, rfl⟩, vp', ps', S + 1, X, r7.keeps hk8 hx7.notVB, HL6.out, by omega, by omega, (((HK3.out.trans (Kv.below HB.out)).trans HK6.out).trans k7).after hk8 (fun j hj e => by omega)⟩
end Go.Proofs.YtdkhhofgfbnmkaaGreat
/- The document's own machine with pages: its Store of any width, and what lies there then. Own work. -/
namespace Go.Proofs.YtdkhhofgfbnmkaaGreat
open Go.RowKit Go.Maps Go.Proofs.YtdkhhofgfbnmkaaGreat.Sp Wk
set_option maxHeartbeats 1000000 in
theorem right_wide {n : Nat} (hn : Wide n) (w : World) : Calls Tryz.prog 32 #[.int .i64 (n : Int)] w fun e w' => e = .returned (.bool true) ∧ w' = w := by
  rcases hn with rfl | rfl | rfl | rfl <;>
  · go_enter Tryz.func32, Tryz.ntmps32
    go_wp2_with fail
    go_ret
    exact ⟨rfl, rfl⟩
theorem RM.box {w w' : World} {base v : Nat} {vr vd vp : Value} {ps : List (Int × Nat)} {M : Nat → Nat} {L S X L' S' X' : Nat} (h : RM w base v vr vd vp ps M L S X) (hk : Keeps (fun j => j = v) w w') (hb : RBox w' v vr vd vp L' S' X') : RM w' base v vr vd vp ps M L' S' X' ∧ Kv base w w' := by
  obtain ⟨⟨r0, r1, r2, r3⟩, kv⟩ := h.rs.box hk hb
  refine ⟨⟨r0, r1, r2, fun x hx => ⟨(r3 x hx).1, (h.2.2.2.1 x hx).2.keeps hk (fun e => ?_)⟩, h.2.2.2.2⟩, kv⟩
  have e : x.2 = v := e
  obtain ⟨_, cur, hc, _⟩ := h.2.2.2.1 x hx
  rw [e, show w.heap[v]? = _ from h.2.1] at hc
  cases hc
theorem Own.p8 {w : World} {base g n cap : Nat} {xs : List Nat} (h : Own w base (.slice (some ⟨g, 0, none⟩) n cap) xs) : P8 w g xs.length (fun i => xs.getD i 0) := by
  rcases h.2 with ⟨hv, _⟩ | ⟨g', cap', cur, hv, hb, hg, hnc, hcm, hcs, ht⟩
  · cases hv
  · cases hv
    refine ⟨cur, hg, fun i hi => ?_⟩
    have h1 := h.cell i hi
    rw [cell_of_row _ _ _ _ _ _ hg] at h1
    exact h1
theorem le_getR : ∀ (m n i : Nat), i < m → (Pl.le m n).getD i 0 = n / 256 ^ i % 256
  | 0, _, _, h => by omega
  | m + 1, n, 0, _ => by show n % 256 = _; simp
  | m + 1, n, i + 1, h => by
    have ih := le_getR m (n / 256) i (by omega)
    show (Pl.le m (n / 256)).getD i 0 = _
    rw [ih, Nat.div_div_eq_div_mul, Nat.pow_succ, Nat.mul_comm]
theorem le_shiftR (n i : Nat) (h : i < 8) : (Pl.le 8 n).getD i 0 = n / 2 ^ (8 * i) % 256 := by rw [le_getR 8 n i h, Nat.pow_mul]
theorem le_take_succ (val i : Nat) (h : i < 8) : (Pl.le 8 val).take (i + 1) = (Pl.le 8 val).take i ++ [val / 2 ^ (8 * i) % 256] := by
  have hl := Pl.le_length 8 val
  have hi : i < (Pl.le 8 val).length := by omega
  rw [List.take_add_one, List.getElem?_eq_getElem hi, ← le_shiftR val i h, List.getD_eq_getElem?_getD, List.getElem?_eq_getElem hi]
  rfl
/-- what the document's own Store does -/
def RStM (w : World) (base v : Nat) (vr vd vp : Value) (ps : List (Int × Nat)) (M : Nat → Nat) (LL : List Sp) (L S X a n val : Nat) (e : Ending) (w' : World) : Prop :=
  ∃ x b, OffR LL a n x b ∧ e = .returned (FaultV (if b then 30 else 0) x) ∧ Kv base w w' ∧ (b = true → RM w' base v vr vd vp ps M L S (X + 1)) ∧ (b = false → ∃ vp' ps', RM w' base v vr vd vp' ps' (putAt M a ((Pl.le 8 val).take n)) L (S + 1) X)
set_option maxRecDepth 100000 in
set_option maxHeartbeats 2000000 in
theorem rstore_at {w : World} {base v : Nat} {vr vd vp : Value} {ps : List (Int × Nat)} {M : Nat → Nat} {rs ds : List Sp} {L S X a n val : Nat} (h : RM w base v vr vd vp ps M L S X) (hw : Wide n) (hb : base ≤ w.heap.size) (hr : U64.SV w vr rs) (hd : U64.SV w vd ds) (hs : Sane (rs ++ ds)) (hll : rs.length + ds.length ≤ 64) (ha : a ≤ 18446744073709551615) (hX : X ≤ 4611686018427387904) (hS : S ≤ 4611686018427387904) :
    Calls Tryz.prog 11 #[.pointer (some ⟨v, 0, none⟩), .int .u64 (a : Int), .int .i64 (n : Int), .int .u64 (val : Int)] w (RStM w base v vr vd vp ps M (rs ++ ds) L S X a n val) := by
  have HR := Lib.hid h
  have HAc : Hid (∀ W, Below w.heap.size w W → Calls Tryz.prog 33 #[.pointer (some ⟨v, 0, none⟩), .int .u64 (a : Int), .int .i64 (n : Int)] W (RAsk W v vr vd vp (rs ++ ds) L S X a n)) := fun W hW => raccess_any (h.2.1.below hW) (hr.below hW (Nat.le_refl _)) (hd.below hW (Nat.le_refl _)) hs hll ha (by rcases hw with h | h | h | h <;> omega) hX
  have HS := Lib.hid hs
  have HRt : Hid (∀ W, Calls Tryz.prog 32 #[.int .i64 (n : Int)] W fun e w' => e = .returned (.bool true) ∧ w' = W) := right_wide hw
  have hvl := h.2.1.lt
  generalize rs ++ ds = LL at *
  have hn1 : 1 ≤ n := by rcases hw with h | h | h | h <;> omega
  have hn8 : n ≤ 8 := by rcases hw with h | h | h | h <;> omega
  clear h hr hd hs hll hw
  go_enter Tryz.func11, Tryz.ntmps11
  go_wp2_with fail
  refine (HRt.out _).mono ?_
  rintro e w1 ⟨rfl, rfl⟩
  go_wp2_with fail
  refine (HAc.out _ ((Below.refl _ _).alloc (Nat.le_refl _) _)).mono ?_
  rintro e w1 ⟨x, b, hoff, rfl, hbx, hk1⟩
  have HXX : Hid (x = x) := rfl
  have hkw : Keeps (fun j => j = v) w w1 := (Keeps.alloc (S := fun j => j = v) w _).trans hk1 (fun _ _ e => e)
  have HX1 : Hid (BoxG w1 w.heap.size 0 0) := (BoxG.new w 0 0).keeps hk1 (show ¬ w.heap.size = v by omega)
  obtain ⟨r1, k1⟩ := HR.out.box hkw hbx
  have HR1 := Lib.hid r1
  have HK1 := Lib.hid k1
  have hlt1 := HX1.out.lt
  have HOf := Lib.hid hoff
  clear hkw hbx hk1 r1 k1 HAc HR hoff
  obtain ⟨W3, hW3⟩ : ∃ W3, w1.alloc (Obj.cells #[.int .i64 (if b = true then 30 else 0), .int .u64 x] 41) = W3 := ⟨_, rfl⟩
  have HB3 : Hid (Below w1.heap.size w1 W3) := hW3 ▸ (Below.refl _ _).alloc (Nat.le_refl _) _
  have HF3 : Hid (BoxG W3 w1.heap.size (if b = true then 30 else 0) x) := hW3 ▸ BoxG.new w1 _ _
  have HX3 : Hid (BoxG W3 w.heap.size 0 0) := HX1.out.below HB3.out
  have HR3 : Hid (RM W3 base v vr vd vp ps M L S (up b X)) := HR1.out.below HB3.out
  have HK3 : Hid (Kv base w W3) := HK1.out.trans (Kv.below HB3.out)
  have hne : w.heap.size ≠ w1.heap.size := by omega
  have hbs : base ≤ W3.heap.size := by have := HB3.out.size; omega
  have hl3 : w1.heap.size < W3.heap.size := HF3.out.lt
  clear HX1 HR1 HK1 HB3
  unfold FaultV
  cases b with
  | true =>
    simp only [if_true] at hW3 HF3
    obtain ⟨x0, x1, f0, f1⟩ := HX3.out.cells
    obtain ⟨y0, y1, _, _⟩ := HF3.out.cells
    go_wp2_with fail
    clear hW3
    obtain ⟨d0, d1, _⟩ := (HX3.out.set 30 x).cells
    refine bodyPost_ret (v := .agg #[.int .i64 30, .int .u64 x]) (by simp [results, Tryz.results11, go_sem, d0, d1]) rfl ?_
    have hk2 := Keeps.two W3 w.heap.size (.int .i64 30) (.int .u64 x)
    exact ⟨x, true, HOf.out, rfl, HK3.out.after hk2 (fun j hj e => by omega), fun _ => HR3.out.keeps hk2 HX3.out.notVB, fun h => absurd h (by decide)⟩
  | false =>
    obtain ⟨rfl, hon⟩ := HOf.out.2 rfl
    have ha8 : (a : Int) ≤ 4294967296 := on_le HS.out (hon 0 (by omega))
    clear hon
    simp only [if_false, Bool.false_eq_true] at hW3 HF3
    have HW3 := Lib.hid hW3
    have HW4 : Hid (BoxG (w1.alloc (Obj.cells #[.int .i64 0, .int .u64 0] 41)) w1.heap.size 0 0) := BoxG.new w1 0 0
    clear hW3
    go_wp2_with fail
    go_loopw [10, 11] (fun bv iv wr => ∃ i : Nat, i ≤ n ∧ iv = .int .i64 (i : Int) ∧ ∃ a1 n1 c1, bv = .slice a1 n1 c1 ∧ Hid (Own wr W3.heap.size (.slice a1 n1 c1) ((Pl.le 8 val).take i)) ∧ Hid (Below W3.heap.size W3 wr)) (fun _ iv _ => n - (intOf iv).toNat)
    case atStart => exact ⟨0, by omega, rfl, none, 0, 0, rfl, own_nil _ _, HW3.out ▸ Below.refl _ _⟩
    case round =>
      obtain ⟨i, hi, rfl, a1, n1, c1, rfl, HO, HB⟩ := hrel
      by_cases hlt : i < n
      · have HO1 := HO
        have HTk : Hid ((Pl.le 8 val).take (i + 1) = (Pl.le 8 val).take i ++ [val / 2 ^ (8 * i) % 256]) := le_take_succ val i (by omega)
        have HXl : Hid (((Pl.le 8 val).take i).length = i) := by show _ = _; rw [List.length_take, Pl.le_length]; omega
        generalize (Pl.le 8 val).take i = xs at *
        clear HO
        have qi : (i : Int) < (n : Int) := by omega
        obtain ⟨r, hrr, hr2⟩ : ∃ r : Nat, (val : Int) / 2 ^ (8 * i) = (r : Int) ∧ Hid (val / 2 ^ (8 * i) = r) := ⟨val / 2 ^ (8 * i), by rw [Int.natCast_ediv, Int.natCast_pow]; rfl, rfl⟩
        have hba : Below W3.heap.size W3 (wr.alloc (Obj.cells #[.int .u8 ((r : Int) % 256)] 5)) := HB.out.alloc HB.out.size _
        have F1 : Hid (Own (wr.alloc (Obj.cells #[.int .u8 ((r : Int) % 256)] 5)) W3.heap.size (.slice a1 n1 c1) xs) := HO1.out.below ((Below.refl _ _).alloc (Nat.le_refl _) _)
        have F2 : Hid (Sl (wr.alloc (Obj.cells #[.int .u8 ((r : Int) % 256)] 5)) (.slice (some ⟨wr.heap.size, 0, none⟩) 1 1) [r % 256]) := sl_one wr r
        have F6 : Hid (xs.length + [r % 256].length ≤ 1099511627776) := by show _ ≤ _; rw [HXl.out]; simp; omega
        have F7 : Hid (W3.heap.size ≤ (wr.alloc (Obj.cells #[.int .u8 ((r : Int) % 256)] 5)).heap.size) := hba.size
        have HBa := Lib.hid hba
        clear hba
        go_wp2_with (refine wpList_append_sl (.tmp 30) (.tmp 37) rfl rfl rfl F1.out rfl F2.out F6.out F7.out ?_)
        intro v' w5 ho hg5 ho3
        obtain ⟨a', n', c', rfl⟩ : ∃ a n c, v' = .slice a n c := by
          rcases ho.2 with ⟨rfl, _⟩ | ⟨g, cap, cur, rfl, _⟩
          · exact ⟨_, _, _, rfl⟩
          · exact ⟨_, _, _, rfl⟩
        have HO5 : Hid (Own w5 W3.heap.size (.slice a' n' c') ((Pl.le 8 val).take (i + 1))) := by
          rw [HTk.out, hr2.out]
          exact ho
        have HB5 : Hid (Below W3.heap.size W3 w5) := HBa.out.grown hg5 F7.out (fun k e => (F1.out.lt k e).1)
        clear ho hg5 ho3
        go_wp2_with fail
        exact ⟨⟨i + 1, by omega, by go_num, a', n', c', rfl, HO5, HB5⟩, by simp [intOf]; omega⟩
      · obtain rfl : i = n := by omega
        have hxl : ((Pl.le 8 val).take i).length = i := by rw [List.length_take, Pl.le_length]; omega
        obtain ⟨g, cap, hv, hg0, hg1, hg2, hg3⟩ := HO.out.form (by omega)
        rw [hxl] at hv hg2
        cases hv
        have HRr := HR3.out.below HB.out
        have hgl : ∀ x ∈ ps, x.2 ≠ g := fun x hx e => by
          have h1 := (HR3.out.2.2.2.1 x hx).2.lt
          have h2 := (HO.out.lt g rfl).1
          omega
        have HLy : Hid (Calls Tryz.prog 34 #[.pointer (some ⟨v, 0, none⟩), .int .u64 (a : Int), .slice (some ⟨g, 0, none⟩) i c1, .int .i64 (i : Int), .int .u8 0] wr fun e w' => e = .returned (.tuple #[]) ∧ ∃ vp' ps', RM w' base v vr vd vp' ps' (putAt M a ((Pl.le 8 val).take i)) L S X ∧ Kv base wr w') := rlay_at HRr (Nat.le_trans hbs HB.out.size) HO.out.p8 hgl hxl (fun z hz => Pl.le_small 8 val z (List.mem_of_mem_take hz)) hn8 hg2 (by omega)
        have hwb : W3.heap.size ≤ wr.heap.size := HB.out.size
        clear HO hxl HRr hg0 hg1 hg2 hg3 hgl
        go_wp2_with fail
        refine HLy.out.mono ?_
        rintro e w6 ⟨rfl, vp', ps', hr6, hk6⟩
        have HR6 := Lib.hid hr6
        have HK6 := Lib.hid hk6
        have HX6 : Hid (BoxG w6 w.heap.size 0 0) := (HX3.out.below HB.out).keeps hk6 (fun e => (HX3.out.below HB.out).notVB _ e rfl)
        have HF6 : Hid (BoxG w6 w1.heap.size 0 0) := (HF3.out.below HB.out).keeps hk6 (fun e => (HF3.out.below HB.out).notVB _ e rfl)
        clear HLy hr6 hk6
        obtain ⟨_, _, _, _, c4, _⟩ := HR6.out.2.1.cells
        have f4 := HR6.out.2.1.thawed 4
        obtain ⟨x0, x1, f0, f1⟩ := HX6.out.cells
        obtain ⟨y0, y1, _, _⟩ := HF6.out.cells
        have hv1 : v ≠ w.heap.size := by omega
        have hv2 : v ≠ w1.heap.size := by omega
        go_wp2_with fail
        have hk7 := Keeps.setCell w6 v 4 (.int .i64 ((S : Int) + 1))
        have hx7 : BoxG (w6.setCell ⟨v, 4, none⟩ (.int .i64 ((S : Int) + 1))) w.heap.size 0 0 := HX6.out.keeps hk7 (fun e => hv1 (show w.heap.size = v from e).symm)
        have hb7 : RBox (w6.setCell ⟨v, 4, none⟩ (.int .i64 ((S : Int) + 1))) v vr vd vp' L (S + 1) X := by
          have h1 : w6.heap[v]? = _ := HR6.out.2.1
          simp [RBox, World.setCell, Array.getElem?_modify, h1]
        obtain ⟨r7, k7⟩ := HR6.out.box hk7 hb7
        generalize w6.setCell ⟨v, 4, none⟩ (.int .i64 ((S : Int) + 1)) = W7 at *
        obtain ⟨d0, d1, _⟩ := (hx7.set 0 0).cells
        refine bodyPost_ret (v := .agg #[.int .i64 0, .int .u64 0]) (by simp [results, Tryz.results11, go_sem, d0, d1]) rfl ?_
        have hk8 := Keeps.two W7 w.heap.size (.int .i64 0) (.int .u64 0)
        exact ⟨0, false, HOf.out, rfl, (((HK3.out.trans (Kv.below HB.out)).trans HK6.out).trans k7).after hk8 (fun j hj e => by omega), fun h => absurd h (by decide), fun _ => ⟨vp', ps', r7.keeps hk8 hx7.notVB⟩⟩
end Go.Proofs.YtdkhhofgfbnmkaaGreat
/- The document's own machine with pages: its bytes, as they lie there. Own work. -/
namespace Go.Proofs.YtdkhhofgfbnmkaaGreat
open Go.RowKit Go.Maps Go.Proofs.YtdkhhofgfbnmkaaGreat.Sp Wk
def fB (M : Nat → Nat) (a i : Nat) : Nat → Nat := fun x => if x < i then M (a + x) else 0
theorem P8.step {w : World} {g n : Nat} {M : Nat → Nat} {a s : Nat} (h : P8 w g n (fB M a s)) : P8 (w.setCell ⟨g, s, none⟩ (.int .u8 ((M (a + s) : Nat) : Int))) g n (fB M a (s + 1)) := by
  refine (h.set s (M (a + s))).congr fun i _ => ?_
  unfold fB
  by_cases e : i = s
  · rw [if_pos e, if_pos (by omega), e]
  · rw [if_neg e]
    by_cases e2 : i < s
    · rw [if_pos e2, if_pos (by omega)]
    · rw [if_neg e2, if_neg (by omega)]
set_option maxRecDepth 100000 in
set_option maxHeartbeats 4000000 in
theorem rbytes_at {w : World} {base v : Nat} {vr vd vp : Value} {ps : List (Int × Nat)} {M : Nat → Nat} {L S X a n : Nat} (h : RM w base v vr vd vp ps M L S X) (hn1 : 1 ≤ n) (hn : n ≤ 8) (ha : a + n ≤ 4294967400) :
    Calls Tryz.prog 93 #[.pointer (some ⟨v, 0, none⟩), .int .u64 (a : Int), .int .i64 (n : Int)] w fun e w' => e = .returned (.slice (some ⟨w.heap.size, 0, none⟩) n n) ∧ P8 w' w.heap.size n (fun i => M (a + i)) ∧ Below w.heap.size w w' := by
  obtain ⟨i, hi, hz0, hz1, hz2⟩ := info_parts info_byte
  have HR := Lib.hid h
  have hvl := h.2.1.lt
  clear h
  go_enter Tryz.func93, Tryz.ntmps93
  go_wp2_with (at_make; refine wpList_make_full _ rfl _ _ 50 rfl w.heap.size 5 i (.int .u8 0) 1 Tryz.underlying50 hi hz0 hz1 _ _ _ _ n rfl rfl (by omega) (by omega) (by rw [hz2]; omega) (by simp only [maxLen]; omega) (by simp) ?_)
  intro w1 hown hgrow
  have HB1 : Hid (Below w.heap.size w w1) := (Below.refl _ _).grown hgrow (by simp) (by simp)
  have HP1 : Hid (P8 w1 w.heap.size n (fB M a 0)) := by
    rcases hown.2 with ⟨hc, _⟩ | ⟨g', cap, cur, hv, _, hg, _, _, hs, ht⟩
    · cases hc
    · cases hv
      refine ⟨cur, hg, fun k hk => ?_⟩
      have e : (fB M a 0 k : Nat) = 0 := rfl
      rw [e, ← Array.getElem?_toList]
      have h0 : (cur.toList.take (n * 1))[k]? = some (.int .u8 ((0 : Nat) : Int)) := by
        rw [ht]
        simp [madeCells, hk, Nat.mod_one]
      rw [List.getElem?_take_of_lt (by omega)] at h0
      exact h0
  clear hown hgrow hi hz0 hz1 hz2
  go_wp2_with fail
  go_loopw [8] (fun iv wr => ∃ i : Nat, i ≤ n ∧ iv = .int .i64 (i : Int) ∧ Hid (P8 wr w.heap.size n (fB M a i) ∧ Below w.heap.size w wr)) (fun iv _ => n - (intOf iv).toNat)
  case atStart => exact ⟨0, Nat.zero_le _, rfl, HP1.out, HB1.out⟩
  case round =>
    obtain ⟨i, hi, rfl, HP⟩ := hrel
    by_cases hlt : i < n
    · have HRw : Hid (RM wr base v vr vd vp ps M L S X) := HR.out.below HP.out.2
      have qi : (i : Int) < (n : Int) := by omega
      have hai : (a : Int) + (i : Int) ≤ 18446744073709551615 := by omega
      obtain ⟨fr, hfr, hfr2⟩ : ∃ fr : Nat, ((a : Int) + (i : Int)) % 4096 = (fr : Int) ∧ fr < 4096 := ⟨(a + i) % 4096, by omega, by omega⟩
      obtain ⟨pg, hpg⟩ : ∃ pg : Nat, ((a : Int) + (i : Int)) / 4096 = (pg : Int) := ⟨(a + i) / 4096, by omega⟩
      have hw1 : IntKind.u64.wrap ((a : Int) + (i : Int)) = (a : Int) + (i : Int) := by rw [IntKind.wrap_u64]; omega
      have HF : Hid (Calls Tryz.prog 57 #[.pointer (some ⟨v, 0, none⟩), .int .u64 (pg : Int)] wr fun e w' => ∃ j : Int, e = .returned (.int .i64 j) ∧ Hid ((j = -1 ∧ ∀ x ∈ ps, x.1 ≠ (pg : Int)) ∨ ∃ i : Nat, j = (i : Int) ∧ ∃ hi : i < ps.length, (ps[i]'hi).1 = (pg : Int)) ∧ wr = w') := rfind_at HRw.out.rs (by have := HRw.out.pn.len; omega)
      obtain ⟨k, hk1, hk2, hk3, hkk⟩ : ∃ k : Nat, 1 ≤ k ∧ k ≤ n - i ∧ k + fr ≤ 4096 ∧ Hid ((decide ((k : Int) < 4096 - (fr : Int)) = true ∧ (n : Int) - (i : Int) = (k : Int)) ∨ (decide ((n : Int) - (i : Int) < (k : Int)) = false ∧ (4096 : Int) - (fr : Int) = (k : Int))) := by
        by_cases hc : n - i < 4096 - fr
        · exact ⟨n - i, by omega, by omega, by omega, .inl ⟨by simp; omega, by omega⟩⟩
        · exact ⟨4096 - fr, by omega, by omega, by omega, .inr ⟨by simp; omega, by omega⟩⟩
      go_upto_if 30 with fail
      go_cut [10] (fun s wx => s = .int .i64 (k : Int) ∧ wx = wr)
      case first =>
        rcases hkk.out with ⟨hci, hk⟩ | ⟨hci, hk⟩
        · have hcp : (n : Int) - (i : Int) < 4096 - (fr : Int) := by rw [hk]; exact of_decide_eq_true hci
          clear hci
          rw [hk] at hcp
          go_wp2_with fail
          go_meet
          exact ⟨rfl, rfl⟩
        · have hcp : ¬ (n : Int) - (i : Int) < (k : Int) := of_decide_eq_false hci
          clear hci
          go_wp2_with fail
          go_meet
          exact ⟨rfl, rfl⟩
      case rest =>
        obtain ⟨rfl, rfl⟩ := hcut
        clear hkk
        go_wp2_with fail
        refine HF.out.mono ?_
        rintro e w1 ⟨j, rfl, hj, rfl⟩
        clear HF
        rcases hj.out with ⟨rfl, hjx⟩ | ⟨jj, rfl, hjj, hjp⟩
        · clear hj
          have HZ : Hid (P8 wc w.heap.size n (fB M a (i + k))) := HP.out.1.congr fun x _ => by
            unfold fB
            by_cases e1 : x < i
            · rw [if_pos e1, if_pos (by omega)]
            · rw [if_neg e1]
              by_cases e2 : x < i + k
              · rw [if_pos e2, HRw.out.2.2.2.2.2.2.2 _ fun y hy => ?_]
                have := hjx y hy
                intro e
                exact this (e.trans (by omega))
              · rw [if_neg e2]
          clear hjx
          go_wp2_with fail
          refine wp_loop_rounds 1 ?_
          rw [rounds_succ]
          go_wp2_with fail
          refine ⟨⟨i + k, by omega, by go_num, HZ.out, HP.out.2⟩, by simp [intOf]; omega⟩
        · clear hj
          have HJ : Hid (∃ hi : jj < ps.length, (ps[jj]'hi).1 = (pg : Int)) := ⟨hjj, hjp⟩
          clear hjj hjp
          have jj0 : (0 : Int) ≤ (jj : Int) := Int.natCast_nonneg _
          go_wp2_with fail
          go_loopw [12] (fun qv wq => ∃ q : Nat, q ≤ k ∧ qv = .int .i64 (q : Int) ∧ Hid (P8 wq w.heap.size n (fB M a (i + q)) ∧ Below w.heap.size w wq)) (fun qv _ => k - (intOf qv).toNat)
          case atStart => exact ⟨0, Nat.zero_le _, rfl, HP.out⟩
          case round =>
            clear HP HRw
            obtain ⟨q, hq, rfl, HQ⟩ := hrel
            by_cases hqk : q < k
            · have qki : (q : Int) < (k : Int) := by omega
              have HRq : Hid (RM wr base v vr vd vp ps M L S X) := HR.out.below HQ.out.2
              obtain ⟨c0, c1, c2, _⟩ := HRq.out.2.1.cells
              obtain ⟨a1, cc, hvp, hc1, hc2, _⟩ := HRq.out.2.2.1.form
              unfold maxLen at hc2
              obtain ⟨n1, hn1'⟩ : ∃ n1, n1 = ps.length := ⟨_, rfl⟩
              have HN1 : Hid (n1 = ps.length) := hn1'
              rw [← hn1'] at hvp hc1
              have hjn : jj < n1 := by rw [HN1.out]; exact HJ.out.1
              subst hvp
              clear hn1'
              obtain ⟨g, rfl, d0, d1⟩ := HRq.out.2.2.1.cell jj HJ.out.1
              obtain ⟨X0, hX0⟩ : ∃ X0, X0 = ps[jj]'HJ.out.1 := ⟨_, rfl⟩
              rw [← hX0] at d0 d1
              have HXM : Hid (X0 ∈ ps) := hX0 ▸ List.getElem_mem HJ.out.1
              have HX1 : Hid (X0.1 = (pg : Int)) := hX0 ▸ HJ.out.2
              clear hX0
              obtain ⟨_, hxu⟩ := HRq.out.2.2.2.1 X0 HXM.out
              generalize X0.2 = x at d1 hxu
              have HXU := Lib.hid hxu
              clear hxu
              obtain ⟨s, hs, hs2⟩ : ∃ s : Nat, (i : Int) + (q : Int) = (s : Int) ∧ s < n := ⟨i + q, by omega, by omega⟩
              obtain ⟨t, ht, ht2⟩ : ∃ t : Nat, (fr : Int) + (q : Int) = (t : Int) ∧ t < 4096 := ⟨fr + q, by omega, by omega⟩
              have hcy := HXU.out.cell t ht2
              rw [show X0.1.toNat * 4096 + t = a + s by rw [HX1.out]; omega] at hcy
              obtain ⟨y, hcz⟩ : ∃ y : Nat, wr.cell? ⟨w.heap.size, s, none⟩ = some (.int .u8 (y : Int)) := ⟨_, HQ.out.1.cell s hs2⟩
              have hfz := HQ.out.1.thawed s
              have HW : Hid (P8 (wr.setCell ⟨w.heap.size, s, none⟩ (.int .u8 ((M (a + s) : Nat) : Int))) w.heap.size n (fB M a (i + (q + 1))) ∧ Below w.heap.size w (wr.setCell ⟨w.heap.size, s, none⟩ (.int .u8 ((M (a + s) : Nat) : Int)))) := by
                rw [show i + (q + 1) = s + 1 by omega]
                exact ⟨P8.step (by rw [show s = i + q by omega]; exact HQ.out.1), HQ.out.2.setCell (Nat.le_refl _) _⟩
              generalize M (a + s) = z at hcy HW
              go_wp2_with fail
              exact ⟨⟨q + 1, by omega, by go_num, HW⟩, by simp [intOf]; omega⟩
            · obtain rfl : q = k := by omega
              go_wp2_with fail
              exact ⟨⟨i + q, by omega, by go_num, HQ.out⟩, by simp [intOf]; omega⟩
    · obtain rfl : i = n := by omega
      go_wp2_with fail
      go_ret
      exact ⟨rfl, HP.out.1.congr fun x hx => by unfold fB; rw [if_pos hx], HP.out.2⟩
end Go.Proofs.YtdkhhofgfbnmkaaGreat
