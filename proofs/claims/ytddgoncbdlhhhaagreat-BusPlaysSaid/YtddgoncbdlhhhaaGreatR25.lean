import Derived.Test.YtddgoncbdlhhhaaGreatR24
/- The document's own machine with pages: its Store of any width, and what lies there then. Own work. -/
namespace Go.Proofs.YtddgoncbdlhhhaaGreat
open Go.RowKit Go.Maps Go.Proofs.YtddgoncbdlhhhaaGreat.Sp Wk
set_option maxHeartbeats 1000000 in
theorem right_wide {n : Nat} (hn : Wide n) (w : World) : Calls Tryz.prog 49 #[.int .i64 (n : Int)] w fun e w' => e = .returned (.bool true) ∧ w' = w := by
  rcases hn with rfl | rfl | rfl | rfl <;>
  · go_enter Tryz.func49, Tryz.ntmps49
    go_wp2_with fail
    go_ret
    exact ⟨rfl, rfl⟩
theorem RM.box {w w' : World} {base v : Nat} {vr vd vp : Value} {ps : List (Int × Nat)} {M : Nat → Nat} {L S X L' S' X' : Nat} (h : RM w base v vr vd vp ps M L S X) (hk : Keeps (fun j => j = v) w w') (hb : RBox w' v vr vd vp L' S' X') : RM w' base v vr vd vp ps M L' S' X' ∧ Kv base w w' := by
  obtain ⟨⟨r0, r1, r2, r3⟩, kv⟩ := h.rs.box hk hb
  refine ⟨⟨r0, r1, r2, fun x hx => ⟨(r3 x hx).1, (h.2.2.2.1 x hx).2.keeps hk (fun e => ?_)⟩, h.2.2.2.2⟩, kv⟩
  have e : x.2 = v := e
  obtain ⟨_, cur, hc, _⟩ := h.2.2.2.1 x hx
  rw [e, show w.heap[v]? = _ from h.2.1] at hc
  cases hc
theorem Own.p8 {w : World} {base g n cap : Nat} {xs : List Nat} (h : Own w base (.slice (some ⟨g, 0, none⟩) n cap) xs) : P8 w g xs.length (fun i => xs.getD i 0) := by
  rcases h.2 with ⟨hv, _⟩ | ⟨g', cap', cur, hv, hb, hg, hnc, hcm, hcs, ht⟩
  · cases hv
  · cases hv
    refine ⟨cur, hg, fun i hi => ?_⟩
    have h1 := h.cell i hi
    rw [cell_of_row _ _ _ _ _ _ hg] at h1
    exact h1
theorem le_getR : ∀ (m n i : Nat), i < m → (Pl.le m n).getD i 0 = n / 256 ^ i % 256
  | 0, _, _, h => by omega
  | m + 1, n, 0, _ => by show n % 256 = _; simp
  | m + 1, n, i + 1, h => by
    have ih := le_getR m (n / 256) i (by omega)
    show (Pl.le m (n / 256)).getD i 0 = _
    rw [ih, Nat.div_div_eq_div_mul, Nat.pow_succ, Nat.mul_comm]
theorem le_shiftR (n i : Nat) (h : i < 8) : (Pl.le 8 n).getD i 0 = n / 2 ^ (8 * i) % 256 := by rw [le_getR 8 n i h, Nat.pow_mul]
theorem le_take_succ (val i : Nat) (h : i < 8) : (Pl.le 8 val).take (i + 1) = (Pl.le 8 val).take i ++ [val / 2 ^ (8 * i) % 256] := by
  have hl := Pl.le_length 8 val
  have hi : i < (Pl.le 8 val).length := by omega
  rw [List.take_add_one, List.getElem?_eq_getElem hi, ← le_shiftR val i h, List.getD_eq_getElem?_getD, List.getElem?_eq_getElem hi]
  rfl
/-- what the document's own Store does -/
def RStM (w : World) (base v : Nat) (vr vd vp : Value) (ps : List (Int × Nat)) (M : Nat → Nat) (LL : List Sp) (L S X a n val : Nat) (e : Ending) (w' : World) : Prop :=
  ∃ x b, OffR LL a n x b ∧ e = .returned (FaultV (if b then 30 else 0) x) ∧ Kv base w w' ∧ (b = true → RM w' base v vr vd vp ps M L S (X + 1)) ∧ (b = false → ∃ vp' ps', RM w' base v vr vd vp' ps' (putAt M a ((Pl.le 8 val).take n)) L (S + 1) X)
set_option maxRecDepth 100000 in
set_option maxHeartbeats 2000000 in
theorem rstore_at {w : World} {base v : Nat} {vr vd vp : Value} {ps : List (Int × Nat)} {M : Nat → Nat} {rs ds : List Sp} {L S X a n val : Nat} (h : RM w base v vr vd vp ps M L S X) (hw : Wide n) (hb : base ≤ w.heap.size) (hr : U64.SV w vr rs) (hd : U64.SV w vd ds) (hs : Sane (rs ++ ds)) (hll : rs.length + ds.length ≤ 64) (ha : a ≤ 18446744073709551615) (hX : X ≤ 4611686018427387904) (hS : S ≤ 4611686018427387904) :
    Calls Tryz.prog 24 #[.pointer (some ⟨v, 0, none⟩), .int .u64 (a : Int), .int .i64 (n : Int), .int .u64 (val : Int)] w (RStM w base v vr vd vp ps M (rs ++ ds) L S X a n val) := by
  have HR := Lib.hid h
  have HAc : Hid (∀ W, Below w.heap.size w W → Calls Tryz.prog 50 #[.pointer (some ⟨v, 0, none⟩), .int .u64 (a : Int), .int .i64 (n : Int)] W (RAsk W v vr vd vp (rs ++ ds) L S X a n)) := fun W hW => raccess_any (h.2.1.below hW) (hr.below hW (Nat.le_refl _)) (hd.below hW (Nat.le_refl _)) hs hll ha (by rcases hw with h | h | h | h <;> omega) hX
  have HS := Lib.hid hs
  have HRt : Hid (∀ W, Calls Tryz.prog 49 #[.int .i64 (n : Int)] W fun e w' => e = .returned (.bool true) ∧ w' = W) := right_wide hw
  have hvl := h.2.1.lt
  generalize rs ++ ds = LL at *
  have hn1 : 1 ≤ n := by rcases hw with h | h | h | h <;> omega
  have hn8 : n ≤ 8 := by rcases hw with h | h | h | h <;> omega
  clear h hr hd hs hll hw
  go_enter Tryz.func24, Tryz.ntmps24
  go_wp2_with fail
  refine (HRt.out _).mono ?_
  rintro e w1 ⟨rfl, rfl⟩
  go_wp2_with fail
  refine (HAc.out _ ((Below.refl _ _).alloc (Nat.le_refl _) _)).mono ?_
  rintro e w1 ⟨x, b, hoff, rfl, hbx, hk1⟩
  have HXX : Hid (x = x) := rfl
  have hkw : Keeps (fun j => j = v) w w1 := (Keeps.alloc (S := fun j => j = v) w _).trans hk1 (fun _ _ e => e)
  have HX1 : Hid (BoxG w1 w.heap.size 0 0) := (BoxG.new w 0 0).keeps hk1 (show ¬ w.heap.size = v by omega)
  obtain ⟨r1, k1⟩ := HR.out.box hkw hbx
  have HR1 := Lib.hid r1
  have HK1 := Lib.hid k1
  have hlt1 := HX1.out.lt
  have HOf := Lib.hid hoff
  clear hkw hbx hk1 r1 k1 HAc HR hoff
  obtain ⟨W3, hW3⟩ : ∃ W3, w1.alloc (Obj.cells #[.int .i64 (if b = true then 30 else 0), .int .u64 x] 75) = W3 := ⟨_, rfl⟩
  have HB3 : Hid (Below w1.heap.size w1 W3) := hW3 ▸ (Below.refl _ _).alloc (Nat.le_refl _) _
  have HF3 : Hid (BoxG W3 w1.heap.size (if b = true then 30 else 0) x) := hW3 ▸ BoxG.new w1 _ _
  have HX3 : Hid (BoxG W3 w.heap.size 0 0) := HX1.out.below HB3.out
  have HR3 : Hid (RM W3 base v vr vd vp ps M L S (up b X)) := HR1.out.below HB3.out
  have HK3 : Hid (Kv base w W3) := HK1.out.trans (Kv.below HB3.out)
  have hne : w.heap.size ≠ w1.heap.size := by omega
  have hbs : base ≤ W3.heap.size := by have := HB3.out.size; omega
  have hl3 : w1.heap.size < W3.heap.size := HF3.out.lt
  clear HX1 HR1 HK1 HB3
  unfold FaultV
  cases b with
  | true =>
    simp only [if_true] at hW3 HF3
    obtain ⟨x0, x1, f0, f1⟩ := HX3.out.cells
    obtain ⟨y0, y1, _, _⟩ := HF3.out.cells
    go_wp2_with fail
    clear hW3
    obtain ⟨d0, d1, _⟩ := (HX3.out.set 30 x).cells
    refine bodyPost_ret (v := .agg #[.int .i64 30, .int .u64 x]) (by simp [results, Tryz.results24, go_sem, d0, d1]) rfl ?_
    have hk2 := Keeps.two W3 w.heap.size (.int .i64 30) (.int .u64 x)
    exact ⟨x, true, HOf.out, rfl, HK3.out.after hk2 (fun j hj e => by omega), fun _ => HR3.out.keeps hk2 HX3.out.notVB, fun h => absurd h (by decide)⟩
  | false =>
    obtain ⟨rfl, hon⟩ := HOf.out.2 rfl
    have ha8 : (a : Int) ≤ 4294967296 := on_le HS.out (hon 0 (by omega))
    clear hon
    simp only [if_false, Bool.false_eq_true] at hW3 HF3
    have HW3 := Lib.hid hW3
    have HW4 : Hid (BoxG (w1.alloc (Obj.cells #[.int .i64 0, .int .u64 0] 75)) w1.heap.size 0 0) := BoxG.new w1 0 0
    clear hW3
    go_wp2_with fail
    go_loopw [10, 11] (fun bv iv wr => ∃ i : Nat, i ≤ n ∧ iv = .int .i64 (i : Int) ∧ ∃ a1 n1 c1, bv = .slice a1 n1 c1 ∧ Hid (Own wr W3.heap.size (.slice a1 n1 c1) ((Pl.le 8 val).take i)) ∧ Hid (Below W3.heap.size W3 wr)) (fun _ iv _ => n - (intOf iv).toNat)
    case atStart => exact ⟨0, by omega, rfl, none, 0, 0, rfl, own_nil _ _, HW3.out ▸ Below.refl _ _⟩
    case round =>
      obtain ⟨i, hi, rfl, a1, n1, c1, rfl, HO, HB⟩ := hrel
      by_cases hlt : i < n
      · have HO1 := HO
        have HTk : Hid ((Pl.le 8 val).take (i + 1) = (Pl.le 8 val).take i ++ [val / 2 ^ (8 * i) % 256]) := le_take_succ val i (by omega)
        have HXl : Hid (((Pl.le 8 val).take i).length = i) := by show _ = _; rw [List.length_take, Pl.le_length]; omega
        generalize (Pl.le 8 val).take i = xs at *
        clear HO
        have qi : (i : Int) < (n : Int) := by omega
        obtain ⟨r, hrr, hr2⟩ : ∃ r : Nat, (val : Int) / 2 ^ (8 * i) = (r : Int) ∧ Hid (val / 2 ^ (8 * i) = r) := ⟨val / 2 ^ (8 * i), by rw [Int.natCast_ediv, Int.natCast_pow]; rfl, rfl⟩
        have hba : Below W3.heap.size W3 (wr.alloc (Obj.cells #[.int .u8 ((r : Int) % 256)] 5)) := HB.out.alloc HB.out.size _
        have F1 : Hid (Own (wr.alloc (Obj.cells #[.int .u8 ((r : Int) % 256)] 5)) W3.heap.size (.slice a1 n1 c1) xs) := HO1.out.below ((Below.refl _ _).alloc (Nat.le_refl _) _)
        have F2 : Hid (Sl (wr.alloc (Obj.cells #[.int .u8 ((r : Int) % 256)] 5)) (.slice (some ⟨wr.heap.size, 0, none⟩) 1 1) [r % 256]) := sl_one wr r
        have F6 : Hid (xs.length + [r % 256].length ≤ 1099511627776) := by show _ ≤ _; rw [HXl.out]; simp; omega
        have F7 : Hid (W3.heap.size ≤ (wr.alloc (Obj.cells #[.int .u8 ((r : Int) % 256)] 5)).heap.size) := hba.size
        have HBa := Lib.hid hba
        clear hba
        go_wp2_with (refine wpList_append_sl (.tmp 30) (.tmp 37) rfl rfl rfl F1.out rfl F2.out F6.out F7.out ?_)
        intro v' w5 ho hg5 ho3
        obtain ⟨a', n', c', rfl⟩ : ∃ a n c, v' = .slice a n c := by
          rcases ho.2 with ⟨rfl, _⟩ | ⟨g, cap, cur, rfl, _⟩
          · exact ⟨_, _, _, rfl⟩
          · exact ⟨_, _, _, rfl⟩
        have HO5 : Hid (Own w5 W3.heap.size (.slice a' n' c') ((Pl.le 8 val).take (i + 1))) := by
          rw [HTk.out, hr2.out]
          exact ho
        have HB5 : Hid (Below W3.heap.size W3 w5) := HBa.out.grown hg5 F7.out (fun k e => (F1.out.lt k e).1)
        clear ho hg5 ho3
        go_wp2_with fail
        exact ⟨⟨i + 1, by omega, by go_num, a', n', c', rfl, HO5, HB5⟩, by simp [intOf]; omega⟩
      · obtain rfl : i = n := by omega
        have hxl : ((Pl.le 8 val).take i).length = i := by rw [List.length_take, Pl.le_length]; omega
        obtain ⟨g, cap, hv, hg0, hg1, hg2, hg3⟩ := HO.out.form (by omega)
        rw [hxl] at hv hg2
        cases hv
        have HRr := HR3.out.below HB.out
        have hgl : ∀ x ∈ ps, x.2 ≠ g := fun x hx e => by
          have h1 := (HR3.out.2.2.2.1 x hx).2.lt
          have h2 := (HO.out.lt g rfl).1
          omega
        have HLy : Hid (Calls Tryz.prog 54 #[.pointer (some ⟨v, 0, none⟩), .int .u64 (a : Int), .slice (some ⟨g, 0, none⟩) i c1, .int .i64 (i : Int), .int .u8 0] wr fun e w' => e = .returned (.tuple #[]) ∧ ∃ vp' ps', RM w' base v vr vd vp' ps' (putAt M a ((Pl.le 8 val).take i)) L S X ∧ Kv base wr w') := rlay_at HRr (Nat.le_trans hbs HB.out.size) HO.out.p8 hgl hxl (fun z hz => Pl.le_small 8 val z (List.mem_of_mem_take hz)) hn8 hg2 (by omega)
        have hwb : W3.heap.size ≤ wr.heap.size := HB.out.size
        clear HO hxl HRr hg0 hg1 hg2 hg3 hgl
        go_wp2_with fail
        refine HLy.out.mono ?_
        rintro e w6 ⟨rfl, vp', ps', hr6, hk6⟩
        have HR6 := Lib.hid hr6
        have HK6 := Lib.hid hk6
        have HX6 : Hid (BoxG w6 w.heap.size 0 0) := (HX3.out.below HB.out).keeps hk6 (fun e => (HX3.out.below HB.out).notVB _ e rfl)
        have HF6 : Hid (BoxG w6 w1.heap.size 0 0) := (HF3.out.below HB.out).keeps hk6 (fun e => (HF3.out.below HB.out).notVB _ e rfl)
        clear HLy hr6 hk6
        obtain ⟨_, _, _, _, c4, _⟩ := HR6.out.2.1.cells
        have f4 := HR6.out.2.1.thawed 4
        obtain ⟨x0, x1, f0, f1⟩ := HX6.out.cells
        obtain ⟨y0, y1, _, _⟩ := HF6.out.cells
        have hv1 : v ≠ w.heap.size := by omega
        have hv2 : v ≠ w1.heap.size := by omega
        go_wp2_with fail
        have hk7 := Keeps.setCell w6 v 4 (.int .i64 ((S : Int) + 1))
        have hx7 : BoxG (w6.setCell ⟨v, 4, none⟩ (.int .i64 ((S : Int) + 1))) w.heap.size 0 0 := HX6.out.keeps hk7 (fun e => hv1 (show w.heap.size = v from e).symm)
        have hb7 : RBox (w6.setCell ⟨v, 4, none⟩ (.int .i64 ((S : Int) + 1))) v vr vd vp' L (S + 1) X := by
          have h1 : w6.heap[v]? = _ := HR6.out.2.1
          simp [RBox, World.setCell, Array.getElem?_modify, h1]
        obtain ⟨r7, k7⟩ := HR6.out.box hk7 hb7
        generalize w6.setCell ⟨v, 4, none⟩ (.int .i64 ((S : Int) + 1)) = W7 at *
        obtain ⟨d0, d1, _⟩ := (hx7.set 0 0).cells
        refine bodyPost_ret (v := .agg #[.int .i64 0, .int .u64 0]) (by simp [results, Tryz.results24, go_sem, d0, d1]) rfl ?_
        have hk8 := Keeps.two W7 w.heap.size (.int .i64 0) (.int .u64 0)
        exact ⟨0, false, HOf.out, rfl, (((HK3.out.trans (Kv.below HB.out)).trans HK6.out).trans k7).after hk8 (fun j hj e => by omega), fun h => absurd h (by decide), fun _ => ⟨vp', ps', r7.keeps hk8 hx7.notVB⟩⟩
end Go.Proofs.YtddgoncbdlhhhaaGreat
/- What a machine of the document's own may write, block by block, and the numbers of its pages. Own work. -/
namespace Go.Proofs.YtddgoncbdlhhhaaGreat
open Go.RowKit Go.Maps Go.Proofs.YtddgoncbdlhhhaaGreat.Sp Wk
/-- the blocks of a machine -/
def Fo (v : Nat) (vp : Value) (ps : List (Int × Nat)) (j : Nat) : Prop := j = v ∨ vp.ownBlock = some j ∨ ∃ x ∈ ps, x.2 = j
theorem RM.fo {w : World} {base v : Nat} {vr vd vp : Value} {ps : List (Int × Nat)} {M : Nat → Nat} {L S X : Nat} (h : RM w base v vr vd vp ps M L S X) {j : Nat} (hj : Fo v vp ps j) : VB base w j := by
  rcases hj with rfl | e | ⟨x, hx, rfl⟩
  · exact ⟨h.1, _, _, _, h.2.1, .inl rfl⟩
  · obtain ⟨_, _, _, _, _, hf⟩ := h.2.2.1.form
    obtain ⟨hb, cur, hc⟩ := hf j e
    exact ⟨hb, cur, _, _, hc, .inr (.inl rfl)⟩
  · obtain ⟨hb, cur, hc, _⟩ := h.2.2.2.1 x hx
    exact ⟨hb, cur, _, _, hc, .inr (.inr rfl)⟩
theorem VB.lt {base : Nat} {w : World} {j : Nat} (h : VB base w j) : j < w.heap.size := by
  obtain ⟨_, c, t, fr, hc, _⟩ := h
  exact (Array.getElem?_eq_some_iff.1 hc).1
theorem RM.keepsF {Z : Nat → Prop} {w w' : World} {base v : Nat} {vr vd vp : Value} {ps : List (Int × Nat)} {M : Nat → Nat} {L S X : Nat} (h : RM w base v vr vd vp ps M L S X) (hk : Keeps Z w w') (hn : ∀ j, Fo v vp ps j → ¬ Z j) : RM w' base v vr vd vp ps M L S X :=
  ⟨h.1, h.2.1.keeps hk (hn _ (.inl rfl)), h.2.2.1.keeps hk (fun k e => hn k (.inr (.inl e))), fun x hx => ⟨(h.2.2.2.1 x hx).1, (h.2.2.2.1 x hx).2.keeps hk (hn _ (.inr (.inr ⟨x, hx, rfl⟩)))⟩, h.2.2.2.2⟩
/-- between two worlds only the machine's own blocks have changed, and its blocks were its own or are new -/
structure Kf (v : Nat) (vp : Value) (ps : List (Int × Nat)) (w : World) (vp' : Value) (ps' : List (Int × Nat)) (w' : World) : Prop where
  keeps : Keeps (Fo v vp ps) w w'
  grown : ∀ j, Fo v vp' ps' j → Fo v vp ps j ∨ w.heap.size ≤ j
theorem Kf.refl (v : Nat) (vp : Value) (ps : List (Int × Nat)) (w : World) : Kf v vp ps w vp ps w := ⟨Keeps.refl _ _, fun _ h => .inl h⟩
theorem Kf.trans {v : Nat} {vp vp1 vp2 : Value} {ps ps1 ps2 : List (Int × Nat)} {w w1 w2 : World} (h : Kf v vp ps w vp1 ps1 w1) (k : Kf v vp1 ps1 w1 vp2 ps2 w2) : Kf v vp ps w vp2 ps2 w2 :=
  ⟨h.keeps.trans k.keeps (fun j hj e => (h.grown j e).resolve_right (by omega)), fun j e => by
    rcases k.grown j e with e | e
    · exact h.grown j e
    · exact .inr (Nat.le_trans h.keeps.size e)⟩
theorem Kf.of {v : Nat} {vp : Value} {ps : List (Int × Nat)} {Z : Nat → Prop} {w w' : World} (h : Keeps Z w w') (hz : ∀ j, j < w.heap.size → Z j → Fo v vp ps j) : Kf v vp ps w vp ps w' := ⟨h.mono hz, fun _ h => .inl h⟩
theorem Kf.one {v : Nat} {vp : Value} {ps : List (Int × Nat)} {w w' : World} (h : Keeps (fun j => j = v) w w') : Kf v vp ps w vp ps w' := Kf.of h (fun _ _ e => .inl e)
theorem Kf.below {v : Nat} {vp : Value} {ps : List (Int × Nat)} {w w' : World} (h : Below w.heap.size w w') : Kf v vp ps w vp ps w' := Kf.of (Keeps.of_below (S := fun _ => False) h) (fun _ _ e => e.elim)
theorem Kf.after {v : Nat} {vp vp' : Value} {ps ps' : List (Int × Nat)} {Z : Nat → Prop} {w w1 w2 : World} (h : Kf v vp ps w vp' ps' w1) (hk : Keeps Z w1 w2) (hz : ∀ j, j < w.heap.size → Z j → False) : Kf v vp ps w vp' ps' w2 := ⟨h.keeps.trans hk (fun j hj e => (hz j hj e).elim), h.grown⟩
/-- a page that is touched -/
def addP (l : List Int) (p : Int) : List Int := if p ∈ l then l else l ++ [p]
/-- the pages of n bytes from a on -/
def addN (l : List Int) (a : Nat) : Nat → List Int
  | 0 => l
  | n + 1 => addP (addN l a n) (((a + n) / 4096 : Nat) : Int)
theorem addP_mem (l : List Int) (p : Int) : p ∈ addP l p := by
  unfold addP
  split
  · assumption
  · simp
theorem addP_in {l : List Int} {p : Int} (h : p ∈ l) : addP l p = l := if_pos h
theorem addP_new {l : List Int} {p : Int} (h : ¬ p ∈ l) : addP l p = l ++ [p] := if_neg h
theorem addN_same (l : List Int) (a i : Nat) : ∀ k, (a + i) % 4096 + (k + 1) ≤ 4096 → addN l a (i + (k + 1)) = addN l a (i + 1)
  | 0, _ => rfl
  | k + 1, h => by
    have ih := addN_same l a i k (by omega)
    show addP (addN l a (i + (k + 1))) (((a + (i + (k + 1))) / 4096 : Nat) : Int) = _
    rw [ih, show (a + (i + (k + 1))) / 4096 = (a + i) / 4096 by omega]
    exact addP_in (addP_mem _ _)
theorem run_appPF {w : World} {base : Nat} {v : Value} {ps : List (Int × Nat)} {x : Int × Nat} {g cap cq : Nat} (ty : TypeId) (hv : OwnP w base v ps) (h0 : w.cell? ⟨g, 0, none⟩ = some (.int .u64 x.1)) (h1 : w.cell? ⟨g, 1, none⟩ = some (.slice (some ⟨x.2, 0, none⟩) 4096 cq)) (hlen : ps.length ≤ 1099511627776) (hbase : base ≤ w.heap.size) :
    ∃ v' w', (Builtin.append_ #[66, 66] ty #[v, .slice (some ⟨g, 0, none⟩) 1 cap]).run Tryz.prog w = .ok v' w' ∧ OwnP w' base v' (ps ++ [x]) ∧ w.grownBy w' v.ownBlock ∧ (v'.ownBlock = v.ownBlock ∨ v'.ownBlock = some w.heap.size) := by
  obtain ⟨i, hi, hz0, hz1, hz2⟩ := info_parts info_pg
  obtain ⟨qs, rfl, hv⟩ := hv
  rw [List.length_map] at hlen
  obtain ⟨v', w', r1, r2, r3, _, r4⟩ := run_append_own_at (P := Tryz.prog) w base 66 ty 89 i _ 2 _ Tryz.underlying66 hi hz0 hz1 hz2 rfl (by omega) v qs.length (encPs qs) hv ⟨g, 0, none⟩ 1 cap (encP (x, cq)) rfl (fun j u hj => by
    have hj2 : j < 2 := by have := (List.getElem?_eq_some_iff.1 hj).1; simpa [encP] using this
    rw [Addr.add_lit, Nat.zero_add]
    rcases (by omega : j = 0 ∨ j = 1) with rfl | rfl
    · rw [h0]; exact hj
    · rw [h1]; exact hj) (fun u hu => encPs_one [(x, cq)] u (by simpa [encPs] using hu)) (by unfold maxLen; omega) (by omega) hbase
  refine ⟨v', w', r1, ?_, r3, r4⟩
  refine ⟨qs ++ [(x, cq)], by simp, ?_⟩
  rw [List.length_append, encPs_append]
  have e : encPs [(x, cq)] = encP (x, cq) := by simp [encPs]
  rw [e]
  exact r2
theorem step_appPF {w : World} {ops : Array Oper} {o : Oper} {a : Act} {K : Act → World → Prop} {Q : Exit → Act → World → Prop} {E : Prop} {base : Nat} {v : Value} {ps : List (Int × Nat)} {x : Int × Nat} {g cap cq : Nat} (hw : Region.wanted o (yielded ops a.tmps) = true) (s y : Operand)
    (ho : o.op = .call { callee := .builtin .append, args := #[s, y], argTypes := #[66, 66] }) (hs : a.eval s = v) (hv : OwnP w base v ps) (hy : a.eval y = .slice (some ⟨g, 0, none⟩) 1 cap) (h0 : w.cell? ⟨g, 0, none⟩ = some (.int .u64 x.1)) (h1 : w.cell? ⟨g, 1, none⟩ = some (.slice (some ⟨x.2, 0, none⟩) 4096 cq)) (hlen : ps.length ≤ 1099511627776) (hbase : base ≤ w.heap.size)
    (h : ∀ va vn vc w', OwnP w' base (.slice va vn vc) (ps ++ [x]) → w.grownBy w' v.ownBlock → ((Value.slice va vn vc).ownBlock = v.ownBlock ∨ (Value.slice va vn vc).ownBlock = some w.heap.size) → K (a.put o.dst (.slice va vn vc)) w') : if Region.wanted o (yielded ops a.tmps) = true then Oper.wp Tryz.prog o a w K Q else E := by
  rw [if_pos hw]
  obtain ⟨v', w', hr, h2, h3, h4⟩ := run_appPF (cap := cap) o.type hv h0 h1 hlen hbase
  obtain ⟨va, vc, rfl, _⟩ := h2.form
  unfold Oper.wp
  simp only [execOp, ho, resolve, invoke, builtin, Sem.run_bind, Sem.run_pure, List.map_toArray, List.map_cons, List.map_nil, hs, hy, hr, Result.andThen_ok]
  exact h va _ vc w' h2 h3 h4
/-- a page is added: which blocks are the machine's then -/
theorem kf_app {w w2 : World} {v : Nat} {vp v2 : Value} {ps : List (Int × Nat)} {pg : Int} (hg : (W2 w pg).grownBy w2 vp.ownBlock) (hf : v2.ownBlock = vp.ownBlock ∨ v2.ownBlock = some (W2 w pg).heap.size) : Kf v vp ps w v2 (ps ++ [(pg, w.heap.size)]) (w2.setCell ⟨v, 2, none⟩ v2) := by
  have kk : Keeps (fun j => vp.ownBlock = some j ∨ j = v) w (w2.setCell ⟨v, 2, none⟩ v2) := (((W2.keeps w pg).mono (S' := fun j => vp.ownBlock = some j ∨ j = v) fun _ _ e => e.elim).trans ((Keeps.of_grown hg).mono (S' := fun j => vp.ownBlock = some j ∨ j = v) fun _ _ e => .inl e) fun _ _ e => e).trans (Keeps.setCell w2 v 2 v2) fun _ _ e => .inr e
  refine ⟨kk.mono fun j _ e => e.elim (fun e => .inr (.inl e)) .inl, fun j hj => ?_⟩
  rcases hj with rfl | e | ⟨x, hx, rfl⟩
  · exact .inl (.inl rfl)
  · rcases hf with hf | hf
    · exact .inl (.inr (.inl (hf ▸ e)))
    · rw [hf] at e
      cases e
      exact .inr (W2.keeps w pg).size
  · rcases List.mem_append.1 hx with hx | hx
    · exact .inl (.inr (.inr ⟨x, hx, rfl⟩))
    · rw [List.mem_singleton.1 hx]
      exact .inr (Nat.le_refl _)
end Go.Proofs.YtddgoncbdlhhhaaGreat
/- The document's own lay, block by block, and the numbers of its pages. Own work. -/
namespace Go.Proofs.YtddgoncbdlhhhaaGreat
open Go.RowKit Go.Maps Go.Proofs.YtddgoncbdlhhhaaGreat.Sp Wk
/-- what lay keeps: s bytes are laid -/
def LayF (vp0 : Value) (ps0 : List (Int × Nat)) (w0 w : World) (base v : Nat) (vr vd : Value) (L S X gb : Nat) (xs : List Nat) (M : Nat → Nat) (a s : Nat) (vp : Value) (ps : List (Int × Nat)) (NN : List Int) : Prop := RM w base v vr vd vp ps (putAt M a (xs.take s)) L S X ∧ P8 w gb xs.length (fun i => xs.getD i 0) ∧ Kf v vp0 ps0 w0 vp ps w ∧ (∀ x ∈ ps, x.2 ≠ gb) ∧ base ≤ w.heap.size ∧ ps.map Prod.fst = NN
theorem LayF.write {vp0 : Value} {ps0 : List (Int × Nat)} {NN : List Int} {w0 w : World} {base v : Nat} {vr vd vp : Value} {L S X gb a s : Nat} {xs : List Nat} {M : Nat → Nat} {ps : List (Int × Nat)} (h : LayF vp0 ps0 w0 w base v vr vd L S X gb xs M a s vp ps NN) {x : Int × Nat} (hx : x ∈ ps) {t : Nat} (ht : t < 4096) (hs : s < xs.length) (hz : ∀ z ∈ xs, z < 256) (he : x.1.toNat * 4096 + t = a + s) : LayF vp0 ps0 w0 (w.setCell ⟨x.2, t, none⟩ (.int .u8 ((xs.getD s 0 : Nat) : Int))) base v vr vd L S X gb xs M a (s + 1) vp ps NN := by
  have hzs : xs.getD s 0 < 256 := by
    rw [List.getD_eq_getElem?_getD, List.getElem?_eq_getElem hs]
    exact hz _ (List.getElem_mem hs)
  have h1 := h.1.write hx ht hzs
  rw [he, putAt_step M a xs s hs] at h1
  refine ⟨h1, h.2.1.keeps (Keeps.setCell w x.2 t _) (fun e => h.2.2.2.1 x hx e.symm), h.2.2.1.trans (Kf.of (Keeps.setCell w x.2 t _) (fun k _ e => .inr (.inr ⟨x, hx, (show k = x.2 from e).symm⟩))), h.2.2.2.1, Nat.le_trans h.2.2.2.2.1 (Keeps.setCell w x.2 t (.int .u8 ((xs.getD s 0 : Nat) : Int))).size, h.2.2.2.2.2⟩
set_option maxRecDepth 100000 in
set_option maxHeartbeats 2000000 in
theorem rlay_f {w : World} {base v : Nat} {vr vd vp : Value} {ps : List (Int × Nat)} {M : Nat → Nat} {L S X a n gb cb : Nat} {xs : List Nat} (h : RM w base v vr vd vp ps M L S X) (hb : base ≤ w.heap.size) (hB : P8 w gb xs.length (fun i => xs.getD i 0)) (hnb : ∀ x ∈ ps, x.2 ≠ gb) (hxl : xs.length = n) (hxs : ∀ z ∈ xs, z < 256) (hn : n ≤ 8) (hcb : n ≤ cb) (ha : a + n ≤ 4294967400) :
    Calls Tryz.prog 54 #[.pointer (some ⟨v, 0, none⟩), .int .u64 (a : Int), .slice (some ⟨gb, 0, none⟩) n cb, .int .i64 (n : Int), .int .u8 0] w fun e w' => e = .returned (.tuple #[]) ∧ ∃ vp' ps', RM w' base v vr vd vp' ps' (putAt M a xs) L S X ∧ Kf v vp ps w vp' ps' w' ∧ ps'.map Prod.fst = addN (ps.map Prod.fst) a n := by
  obtain ⟨NS, hNS⟩ : ∃ NS, ps.map Prod.fst = NS := ⟨_, rfl⟩
  rw [hNS]
  have HI0 : Hid (∃ vp' ps', LayF vp ps w w base v vr vd L S X gb xs M a 0 vp' ps' (addN NS a 0)) := ⟨vp, ps, by rw [List.take_zero, putAt_nil]; exact h, hB, Kf.refl _ _ _ _, hnb, hb, hNS⟩
  have HXl := Lib.hid hxl
  have HXs := Lib.hid hxs
  have hgb := hB.lt
  clear h hB hb hnb hxl hxs hNS
  have hmk : ∀ W : World, (Instr.makeSlice 27 (.int .i64 4096) (.int .i64 4096)).run Tryz.prog W = .ok (.slice (some ⟨W.heap.size, 0, none⟩) 4096 4096) (W.alloc (.cells zc 5)) := make_page
  go_enter Tryz.func54, Tryz.ntmps54
  go_wp2_with fail
  go_loopw [10] (fun iv wr => ∃ i : Nat, i ≤ n ∧ iv = .int .i64 (i : Int) ∧ Hid (∃ vp' ps', LayF vp ps w wr base v vr vd L S X gb xs M a i vp' ps' (addN NS a i))) (fun iv _ => n - (intOf iv).toNat)
  case atStart => exact ⟨0, Nat.zero_le _, rfl, HI0⟩
  case round =>
    obtain ⟨i, hi, rfl, HI⟩ := hrel
    by_cases hlt : i < n
    · obtain ⟨vp1, ps1, HI1⟩ := HI.out
      have HL := Lib.hid HI1
      clear HI1 HI HI0
      have qi : (i : Int) < (n : Int) := by omega
      have hai : (a : Int) + (i : Int) ≤ 18446744073709551615 := by omega
      obtain ⟨fr, hfr, hfr2⟩ : ∃ fr : Nat, ((a : Int) + (i : Int)) % 4096 = (fr : Int) ∧ fr < 4096 := ⟨(a + i) % 4096, by omega, by omega⟩
      have HSm : Hid (∀ k, 1 ≤ k → k + fr ≤ 4096 → addN NS a (i + k) = addN NS a (i + 1)) := fun k h1 h2 => by
        obtain ⟨k', rfl⟩ : ∃ k', k = k' + 1 := ⟨k - 1, by omega⟩
        exact addN_same NS a i k' (by omega)
      obtain ⟨pg, hpg⟩ : ∃ pg : Nat, ((a : Int) + (i : Int)) / 4096 = (pg : Int) := ⟨(a + i) / 4096, by omega⟩
      have HSt : Hid (addN NS a (i + 1) = addP (addN NS a i) (pg : Int)) := by
        show addP _ _ = _
        rw [← hpg, Int.natCast_ediv, Int.natCast_add]
        rfl
      have hw1 : IntKind.u64.wrap ((a : Int) + (i : Int)) = (a : Int) + (i : Int) := by rw [IntKind.wrap_u64]; omega
      have HF : Hid (Calls Tryz.prog 87 #[.pointer (some ⟨v, 0, none⟩), .int .u64 (pg : Int)] wr fun e w' => ∃ j : Int, e = .returned (.int .i64 j) ∧ Hid ((j = -1 ∧ ∀ x ∈ ps1, x.1 ≠ (pg : Int)) ∨ ∃ i : Nat, j = (i : Int) ∧ ∃ hi : i < ps1.length, (ps1[i]'hi).1 = (pg : Int)) ∧ wr = w') := rfind_at HL.out.1.rs (by have := HL.out.1.pn.len; omega)
      obtain ⟨k, hk1, hk2, hk3, hkk⟩ : ∃ k : Nat, 1 ≤ k ∧ k ≤ n - i ∧ k + fr ≤ 4096 ∧ Hid ((decide ((k : Int) < 4096 - (fr : Int)) = true ∧ (n : Int) - (i : Int) = (k : Int)) ∨ (decide ((n : Int) - (i : Int) < (k : Int)) = false ∧ (4096 : Int) - (fr : Int) = (k : Int))) := by
        by_cases hc : n - i < 4096 - fr
        · exact ⟨n - i, by omega, by omega, by omega, .inl ⟨by simp; omega, by omega⟩⟩
        · exact ⟨4096 - fr, by omega, by omega, by omega, .inr ⟨by simp; omega, by omega⟩⟩
      go_upto_if 31 with fail
      go_cut [12] (fun s wx => s = .int .i64 (k : Int) ∧ wx = wr)
      case first =>
        rcases hkk.out with ⟨hci, hk⟩ | ⟨hci, hk⟩
        · have hcp : (n : Int) - (i : Int) < 4096 - (fr : Int) := by rw [hk]; exact of_decide_eq_true hci
          clear hci
          rw [hk] at hcp
          go_wp2_with fail
          go_meet
          exact ⟨rfl, rfl⟩
        · have hcp : ¬ (n : Int) - (i : Int) < (k : Int) := of_decide_eq_false hci
          clear hci
          go_wp2_with fail
          go_meet
          exact ⟨rfl, rfl⟩
      case rest =>
        obtain ⟨rfl, rfl⟩ := hcut
        clear hkk
        go_wp2_with fail
        refine HF.out.mono ?_
        rintro e w1 ⟨j, rfl, hj, rfl⟩
        clear HF
        go_upto_region 7 with fail
        go_cut [51] (fun s wx => s = .bool (decide (j < 0)) ∧ wx = wc)
        case first =>
          rcases hj.out with ⟨rfl, hjx⟩ | ⟨j0, rfl, hj0, hj1⟩
          · go_wp2_with fail
            go_meet
            exact ⟨rfl, rfl⟩
          · have hjn : decide ((j0 : Int) < 0) = false := by simp
            go_wp2_with fail
            go_meet
            exact ⟨by go_num, rfl⟩
        case rest =>
          obtain ⟨rfl, hwc⟩ := hcut
          subst hwc
          go_upto_if 51 with fail
          go_cut [13] (fun s wx => ∃ (jj : Nat) (vp2 : Value) (ps2 : List (Int × Nat)), s = .int .i64 (jj : Int) ∧ Hid (∃ hi : jj < ps2.length, (ps2[jj]'hi).1 = (pg : Int)) ∧ Hid (LayF vp ps w wx base v vr vd L S X gb xs M a i vp2 ps2 (addN NS a (i + 1))))
          case first =>
            rcases hj.out with ⟨rfl, hjx⟩ | ⟨j0, rfl, hj0, hj1⟩
            · clear hj
              have HJX := Lib.hid hjx
              clear hjx
              obtain ⟨c0, c1, c2, _⟩ := HL.out.1.2.1.cells
              have hvl := HL.out.1.2.1.lt
              have hv1 : v ≠ wc.heap.size := by omega
              have hv2 : v ≠ wc.heap.size + 1 := by omega
              obtain ⟨a1, cc, hvp, hc1, hc2, _⟩ := HL.out.1.2.2.1.form
              unfold maxLen at hc2
              obtain ⟨n1, hn1⟩ : ∃ n1, n1 = ps1.length := ⟨_, rfl⟩
              have HN1 : Hid (n1 = ps1.length) := hn1
              rw [← hn1] at hvp hc1
              have hn1l : n1 ≤ 2097153 := by rw [HN1.out]; exact HL.out.1.pn.len
              subst hvp
              clear hn1
              have HO : Hid (OwnP (W2 wc (pg : Int)) base (.slice a1 n1 cc) ps1) := HL.out.1.2.2.1.keeps (W2.keeps wc (pg : Int)) (fun _ _ e => e)
              have HC : Hid ((W2 wc (pg : Int)).cell? ⟨wc.heap.size + 1, 0, none⟩ = some (.int .u64 (pg : Int)) ∧ (W2 wc (pg : Int)).cell? ⟨wc.heap.size + 1, 1, none⟩ = some (.slice (some ⟨wc.heap.size, 0, none⟩) 4096 4096)) := W2.cells wc (pg : Int)
              have HA : Hid (∀ v2 w2, OwnP w2 base v2 (ps1 ++ [((pg : Int), wc.heap.size)]) → (W2 wc (pg : Int)).grownBy w2 (Value.slice a1 n1 cc).ownBlock → (v2.ownBlock = (Value.slice a1 n1 cc).ownBlock ∨ v2.ownBlock = some (W2 wc (pg : Int)).heap.size) → LayF vp ps w (w2.setCell ⟨v, 2, none⟩ v2) base v vr vd L S X gb xs M a i v2 (ps1 ++ [((pg : Int), wc.heap.size)]) (addN NS a (i + 1)) ∧ w2.cell? ⟨v, 2, none⟩ = some (.slice a1 n1 cc) ∧ w2.frozen? ⟨v, 2, none⟩ = false) := fun v2 w2 ho hg hfr => by
                obtain ⟨r1, r2, r3, r4, r5, r6⟩ := HL.out.1.app HL.out.2.2.2.2.1 pg (by omega) HJX.out ho hg
                refine ⟨⟨r1, r3 _ _ _ HL.out.2.1, HL.out.2.2.1.trans (kf_app hg hfr), fun x hx => ?_, r6, ?_⟩, r4, r5⟩
                rotate_left
                · rw [HSt.out, addP_new (fun hm => ?_), List.map_append, HL.out.2.2.2.2.2]
                  · rfl
                  · rw [← HL.out.2.2.2.2.2] at hm
                    obtain ⟨x, hx, e⟩ := List.mem_map.1 hm
                    exact HJX.out x hx e
                rcases List.mem_append.1 hx with hx | hx
                · exact HL.out.2.2.2.1 x hx
                · rw [List.mem_singleton.1 hx]
                  have := HL.out.2.1.lt
                  show wc.heap.size ≠ gb
                  omega
              have HBs : Hid (base ≤ (W2 wc (pg : Int)).heap.size) := Nat.le_trans HL.out.2.2.2.2.1 (W2.keeps wc (pg : Int)).size
              have hw0 : IntKind.u64.wrap (i : Int) = (i : Int) := by rw [IntKind.wrap_u64]; omega
              have hw2 : IntKind.u64.wrap (((a : Int) + (i : Int)).tdiv 4096) = (pg : Int) := by rw [Int.tdiv_eq_ediv_of_nonneg (by omega), hpg, IntKind.wrap_u64]; omega
              have HLn : Hid (ps1.length ≤ 1099511627776) := by show _ ≤ _; rw [← HN1.out]; omega
              go_wp2_with fail
              go_region_law (refine step_appPF (base := base) (v := .slice a1 n1 cc) (ps := ps1) (x := ((pg : Int), wc.heap.size)) (by kernel_rfl) (.tmp 61) (.tmp 69) (by rfl) (by rfl) (by exact HO.out) (by rfl) (by exact HC.out.1) (by exact HC.out.2) HLn.out (by exact HBs.out) ?_; intro va vn vc w2 ho hg hfr; obtain ⟨hl2, hc2, hf2⟩ := HA.out _ w2 ho hg hfr; have HL2 := Lib.hid hl2; clear hl2 ho hg hfr)
              all_goals
                go_wp2_with fail
                go_meet
                exact ⟨n1, _, _, rfl, ⟨by rw [HN1.out, List.length_append]; exact Nat.lt_succ_self _, by simp [HN1.out]⟩, HL2⟩
            · clear hj
              have HJ : Hid (∃ hi : j0 < ps1.length, (ps1[j0]'hi).1 = (pg : Int)) := ⟨hj0, hj1⟩
              clear hj0 hj1
              have HL2 : Hid (LayF vp ps w wc base v vr vd L S X gb xs M a i vp1 ps1 (addN NS a (i + 1))) := by
                refine ⟨HL.out.1, HL.out.2.1, HL.out.2.2.1, HL.out.2.2.2.1, HL.out.2.2.2.2.1, ?_⟩
                rw [HSt.out, addP_in, HL.out.2.2.2.2.2]
                rw [← HL.out.2.2.2.2.2, ← HJ.out.2]
                exact List.mem_map_of_mem (List.getElem_mem HJ.out.1)
              go_wp2_with fail
              go_meet
              exact ⟨j0, _, _, rfl, HJ, HL2⟩
          case rest =>
            obtain ⟨jj, vp2, ps2, rfl, HJ, HL2⟩ := hcut
            clear hj HL
            have jj0 : (0 : Int) ≤ (jj : Int) := Int.natCast_nonneg _
            go_wp2_with fail
            go_loopw [14] (fun qv wq => ∃ q : Nat, q ≤ k ∧ qv = .int .i64 (q : Int) ∧ Hid (LayF vp ps w wq base v vr vd L S X gb xs M a (i + q) vp2 ps2 (addN NS a (i + 1)))) (fun qv _ => k - (intOf qv).toNat)
            case atStart => exact ⟨0, Nat.zero_le _, rfl, HL2⟩
            case round =>
              obtain ⟨q, hq, rfl, HQ⟩ := hrel
              by_cases hqk : q < k
              · have qki : (q : Int) < (k : Int) := by omega
                obtain ⟨c0, c1, c2, _⟩ := HQ.out.1.2.1.cells
                obtain ⟨a1, cc, hvp, hc1, hc2, _⟩ := HQ.out.1.2.2.1.form
                unfold maxLen at hc2
                obtain ⟨n1, hn1⟩ : ∃ n1, n1 = ps2.length := ⟨_, rfl⟩
                have HN1 : Hid (n1 = ps2.length) := hn1
                rw [← hn1] at hvp hc1
                have hjn : jj < n1 := by rw [HN1.out]; exact HJ.out.1
                subst hvp
                clear hn1
                obtain ⟨g, rfl, d0, cq, d1⟩ := HQ.out.1.2.2.1.cell jj HJ.out.1
                obtain ⟨X0, hX0⟩ : ∃ X0, X0 = ps2[jj]'HJ.out.1 := ⟨_, rfl⟩
                rw [← hX0] at d0 d1
                have HXM : Hid (X0 ∈ ps2) := hX0 ▸ List.getElem_mem HJ.out.1
                have HX1 : Hid (X0.1 = (pg : Int)) := hX0 ▸ HJ.out.2
                clear hX0
                obtain ⟨_, hxu⟩ := HQ.out.1.2.2.2.1 X0 HXM.out
                have HXU := Lib.hid hxu
                obtain ⟨x, hx⟩ : ∃ x, x = X0.2 := ⟨_, rfl⟩
                have HX2 : Hid (x = X0.2) := hx
                rw [← hx] at d1 HXU
                clear hx hxu
                obtain ⟨s, hs, hs2⟩ : ∃ s : Nat, (i : Int) + (q : Int) = (s : Int) ∧ s < n := ⟨i + q, by omega, by omega⟩
                obtain ⟨t, ht, ht2⟩ : ∃ t : Nat, (fr : Int) + (q : Int) = (t : Int) ∧ t < 4096 := ⟨fr + q, by omega, by omega⟩
                have hcz := HQ.out.2.1.cell s (by rw [HXl.out]; exact hs2)
                obtain ⟨y, hcy⟩ : ∃ y : Nat, wr.cell? ⟨x, t, none⟩ = some (.int .u8 (y : Int)) := ⟨_, HXU.out.cell t ht2⟩
                have hfz := HXU.out.thawed t
                have HW : Hid (LayF vp ps w (wr.setCell ⟨x, t, none⟩ (.int .u8 ((xs.getD s 0 : Nat) : Int))) base v vr vd L S X gb xs M a (i + (q + 1)) (.slice (some ⟨g, 0, none⟩) n1 cc) ps2 (addN NS a (i + 1))) := by
                  rw [HX2.out, show i + (q + 1) = s + 1 by omega]
                  exact LayF.write (by rw [show s = i + q by omega]; exact HQ.out) HXM.out ht2 (by rw [HXl.out]; exact hs2) HXs.out (by rw [HX1.out]; omega)
                generalize xs.getD s 0 = z at hcz HW
                go_wp2_with fail
                exact ⟨⟨q + 1, by omega, by go_num, HW⟩, by simp [intOf]; omega⟩
              · go_wp2_with fail
                refine ⟨⟨i + k, by omega, by go_num, ?_⟩, by simp [intOf]; omega⟩
                obtain rfl : q = k := by omega
                exact ⟨_, _, by rw [HSm.out _ hk1 hk3]; exact HQ.out⟩
    · obtain rfl : i = n := by omega
      go_wp2_with fail
      go_end0
      obtain ⟨vp1, ps1, h1⟩ := HI.out
      have h2 := h1.1
      rw [List.take_of_length_le (by rw [HXl.out]; exact Nat.le_refl _)] at h2
      exact ⟨rfl, vp1, ps1, h2, h1.2.2.1, h1.2.2.2.2.2⟩
end Go.Proofs.YtddgoncbdlhhhaaGreat
