import Derived.Test.YtdkhhofgfbnmkaaGreatPf48
import Derived.Test.YtdkhhofgfbnmkaaGreatPf49
import Derived.Deep.DeepCutAuto
import Derived.Deep.CutBlock
/- WalkForeign: leaves. Own work. -/
namespace Go.Proofs.YtdkhhofgfbnmkaaGreat
open Go.RowKit Go.Maps Go.Shelf Go.Proofs.YtdkhhofgfbnmkaaGreat.Sp Wk Lv
attribute [local go_sem] Oper.semAt_some
theorem look_ty {w w0 : World} {m base : Nat} {vr vd vp : Value} {ps : List (Int × Nat)} {M : Nat → Nat} {rs ds : List Sp} {L S n t k : Nat} {l : Int} (h : Ty w m w0 base vr vd vp ps M rs ds L S n) (ht : t + 8 * k ≤ 18446744073709551615) (hn : n ≤ 4611686018427387904) :
    Calls Tryz.prog 91 #[MemT m, .int .u64 (t : Int), .int .u64 (k : Int), .int .i64 l] w fun e w' => e = .returned (.tuple #[EntV (lookF (rs ++ ds) M (t + 8 * k) l).1, .int .i64 (lookF (rs ++ ds) M (t + 8 * k) l).2]) ∧ Ty w' m w0 base vr vd vp ps M rs ds L S (n + (if onB (rs ++ ds) (t + 8 * k) then 0 else 1)) ∧ Keeps (fun j => j = m) w w' := by
  obtain ⟨X, h1, h4⟩ := h
  refine (look_t h4 ht (by omega)).mono ?_
  rintro e w' ⟨r, b, rfl, hr, hm, hk⟩
  rw [look_is hr]
  refine ⟨rfl, ⟨up b X, ?_, hm⟩, hk⟩
  obtain ⟨x, ho, _⟩ := hr
  cases b with
  | false => show X ≤ _; omega
  | true =>
    obtain ⟨i, hi, _, _, hno, _⟩ := ho.1 rfl
    have : onB (rs ++ ds) (t + 8 * k) = false := by
      unfold onB
      rw [decide_eq_false_iff_not]
      exact fun hh => hno (hh i hi)
    rw [this]
    show X + 1 ≤ _
    simp
    omega
/-- where leaves stands between two rounds: k rounds are over -/
structure TlE (m : Nat) (w0 : World) (base : Nat) (vr vd vp1 : Value) (ps1 : List (Int × Nat)) (M : Nat → Nat) (rs ds : List Sp) (L S n v : Nat) (vp : Value) (ps : List (Int × Nat)) (X' : Nat) (wr : World) (b6 b8 c0 lo rt : Nat) (z : Int) (vt : Value) (ws : List T7) (k b11 : Nat) (dl : List Deferred) (W : World) : Prop where
  mac : Ty W m w0 base vr vd vp1 ps1 M rs ds L S (n + 2000 * k)
  ref : RM W base v vr vd vp ps M L S X'
  keeps : Keeps (fun j => j = m ∨ j = v) wr W
  res : BoxR W b6 false
  row : LsAt W b8 vt
  want : WantAt lo b8 W vt ws
  rnd : IntAt W b11 (k : Int)
  cm : W.cell? ⟨c0, 0, none⟩ = some (.iface 46 (.agg #[.pointer (some ⟨m, 0, none⟩)]))
  co : W.cell? ⟨c0 + 2, 0, none⟩ = some (.int .i64 z)
  cr : W.cell? ⟨c0 + 1, 0, none⟩ = some (.int .u64 (rt : Int))
  marks : Marks (c0 + 3) dl W
  big : c0 + 3 ≤ b11
/-- within a round: what was told so far -/
structure TC (m : Nat) (w0 : World) (base : Nat) (vr vd vp1 : Value) (ps1 : List (Int × Nat)) (M : Nat → Nat) (rs ds : List Sp) (L S n0 l0 : Nat) (r : Loop) (b6 b8 b11 b12 lo k : Nat) (vt : Value) (ws : List T7) (s : SP) (W : World) : Prop where
  mac : Ty W m w0 base vr vd vp1 ps1 M rs ds L S (n0 + s.1)
  record : RecAt W l0 r (if s.2.2 = 0 then .ready else .done) (if s.2.2 = 0 then none else some (.exit 2))
  cnt : IntAt W b12 (s.2.1 : Int)
  rnd : IntAt W b11 (k : Int)
  want : WantAt lo b8 W vt ws
  row : LsAt W b8 vt
  res : BoxR W b6 false
theorem TC.keeps {m : Nat} {w0 : World} {base : Nat} {vr vd vp1 : Value} {ps1 : List (Int × Nat)} {M : Nat → Nat} {rs ds : List Sp} {L S n0 l0 : Nat} {r : Loop} {b6 b8 b11 b12 lo k : Nat} {vt : Value} {ws : List T7} {s : SP} {W W' : World} {Z : Nat → Prop} (h : TC m w0 base vr vd vp1 ps1 M rs ds L S n0 l0 r b6 b8 b11 b12 lo k vt ws s W) (hk : Keeps Z W W') (h1 : ∀ j, Mt w0 m vp1 ps1 j → ¬ Z j) (h2 : ¬ Z l0) (h3 : ¬ Z b12) (h4 : ¬ Z b11) (h5 : ∀ j, lo ≤ j → j < b8 → ¬ Z j) (h6 : ¬ Z b8) (h7 : ¬ Z b6) : TC m w0 base vr vd vp1 ps1 M rs ds L S n0 l0 r b6 b8 b11 b12 lo k vt ws s W' :=
  ⟨h.mac.keeps hk h1, (hk.block l0 h.record.lt h2).trans h.record, h.cnt.keeps hk h3, h.rnd.keeps hk h4, h.want.keeps hk h5, h.row.keeps hk h6, h.res.keeps hk h7⟩
/-- where a round's range ends -/
structure TlD (m : Nat) (w0 : World) (base : Nat) (vr vd vp1 : Value) (ps1 : List (Int × Nat)) (M : Nat → Nat) (rs ds : List Sp) (L S n b6 b12 k NW : Nat) (W5 W : World) : Prop where
  mac : Ty W m w0 base vr vd vp1 ps1 M rs ds L S n
  cnt : ∃ i : Nat, IntAt W b12 (i : Int) ∧ (i = NW ∨ (k = 0 ∧ NW / 2 < i ∧ i < NW))
  res : BoxR W b6 false
  keeps : Keeps (fun j => j = m ∨ j = b12 ∨ j = b6) W5 W
  mark : W.heap[W5.heap.size]? = some (.deferred (some []))
/-- the frame between two rounds -/
inductive EnT (m : Nat) (w0 : World) (base : Nat) (vr vd vp1 : Value) (ps1 : List (Int × Nat)) (M : Nat → Nat) (rs ds : List Sp) (L S n v : Nat) (vp : Value) (ps : List (Int × Nat)) (X' : Nat) (wr : World) (b5 b6 b8 c0 lo rt : Nat) (z : Int) (vt : Value) (ws : List T7) (ov : Value) : Act → World → Prop
  | mk {k b11 : Nat} {dl : List Deferred} {u3 u4 u9 u12 u13 u14 u15 u16 u17 u18 u19 u20 u21 u22 u23 u24 u25 u26 u27 u28 u29 u30 u31 u32 u33 u34 u35 u36 u37 u38 u39 u40 u41 u42 u43 u44 u45 u46 u47 u48 u49 u50 u51 u52 u53 u54 u55 u56 u57 u58 u59 u60 u61 u62 u63 u64 u65 u66 u67 u68 u69 u70 u71 u72 u73 u74 u75 u76 u77 u78 u79 u80 u81 u82 u83 u84 u85 u86 u87 u88 : Value} {wq : World} (hk : k ≤ 2) (HI : Hid (TlE m w0 base vr vd vp1 ps1 M rs ds L S n v vp ps X' wr b6 b8 c0 lo rt z vt ws k b11 dl wq)) : EnT m w0 base vr vd vp1 ps1 M rs ds L S n v vp ps X' wr b5 b6 b8 c0 lo rt z vt ws ov ({ tmps := #[.iface 46 (.agg #[.pointer (some ⟨m, 0, none⟩)]), .pointer (some ⟨v, 0, none⟩), ov, u3, u4, .pointer (some ⟨b5, 0, none⟩), .pointer (some ⟨b6, 0, none⟩), .int .i64 z, .pointer (some ⟨b8, 0, none⟩), u9, .func (.func 78) #[] #[.pointer (some ⟨c0, 0, none⟩), .pointer (some ⟨c0 + 2, 0, none⟩), .pointer (some ⟨c0 + 1, 0, none⟩)], .pointer (some ⟨b11, 0, none⟩), u12, u13, u14, u15, u16, u17, u18, u19, u20, u21, u22, u23, u24, u25, u26, u27, u28, u29, u30, u31, u32, u33, u34, u35, u36, u37, u38, u39, u40, u41, u42, u43, u44, u45, u46, u47, u48, u49, u50, u51, u52, u53, u54, u55, u56, u57, u58, u59, u60, u61, u62, u63, u64, u65, u66, u67, u68, u69, u70, u71, u72, u73, u74, u75, u76, u77, u78, u79, u80, u81, u82, u83, u84, u85, u86, u87, u88], defers := dl } : Act) wq
set_option maxRecDepth 100000 in
set_option maxHeartbeats 8000000 in
theorem leaves_t {w0 wr : World} {base m v : Nat} {vr vd : Value} {rs ds : List Sp} {p : Ht} {n k : Nat} {kd nn : Int} {rt vt0 vl : Nat} (h : GMt w0 wr base m v vr vd rs ds p p n k) (ht : rt ≤ 18446744073709551615) (hn : n ≤ 4000000000000000000) (hk : k ≤ 4000000000000000000) :
    Calls Tryz.prog 26 #[.iface 46 (.agg #[.pointer (some ⟨m, 0, none⟩)]), .pointer (some ⟨v, 0, none⟩), .agg #[.int .i64 kd, .int .u64 (rt : Int), .int .u64 (vt0 : Int), .int .u64 (vl : Int), .int .i64 nn]] wr fun e w' => e = .returned (.bool true) ∧ Hid (GMt w0 w' base m v vr vd rs ds p p (n + 4000) k) := by
  obtain ⟨h6, hr, hd, hs, hl, h4⟩ := h.low
  obtain ⟨vp1, ps1, vp, ps, X', h1, g1, hX', h7, g2, hd0, h5⟩ := h
  obtain ⟨M, L, S, NS⟩ := p
  dsimp only at h1 h7 g1 g2
  have HWi : Hid (∀ W, Calls Tryz.prog 51 #[.int .i64 nn, .int .i64 (-1), .int .i64 2000] W fun e w' => ∃ r : Int, e = .returned (.int .i64 r) ∧ -1 ≤ r ∧ r ≤ 2000 ∧ w' = W) := fun W => within_lv W
  have HRl : Hid (∀ W z, z ≤ 2000 → Below wr.heap.size wr W → Calls Tryz.prog 52 #[.pointer (some ⟨v, 0, none⟩), .int .u64 (rt : Int), .int .i64 z] W fun e w' => ∃ vt b, e = .returned (.tuple #[vt, .bool b]) ∧ WantAt W.heap.size w'.heap.size w' vt (WantF (rs ++ ds) M rt z) ∧ RM w' base v vr vd vp ps M L S X' ∧ Keeps (fun j => j = v) W w') := fun W z hz hW => rleaves_want (h7.below hW) (h6.trans (hW.mono h6.size)) (Nat.le_trans h4 h7.1) (Nat.lt_of_lt_of_le h7.2.1.lt hW.size) hr hd hs hl (by omega) hz ht
  have HVm : Hid (∀ W z, Calls Tryz.prog 53 #[.iface 46 (.agg #[.pointer (some ⟨m, 0, none⟩)]), .int .u64 (rt : Int), .int .i64 z] W fun e w' => e = .returned (.func (.func 78) #[] #[.pointer (some ⟨W.heap.size, 0, none⟩), .pointer (some ⟨W.heap.size + 2, 0, none⟩), .pointer (some ⟨W.heap.size + 1, 0, none⟩)]) ∧ w'.cell? ⟨W.heap.size, 0, none⟩ = some (.iface 46 (.agg #[.pointer (some ⟨m, 0, none⟩)])) ∧ w'.cell? ⟨W.heap.size + 2, 0, none⟩ = some (.int .i64 z) ∧ w'.cell? ⟨W.heap.size + 1, 0, none⟩ = some (.int .u64 (rt : Int)) ∧ w'.heap.size = W.heap.size + 3 ∧ Below W.heap.size W w') := fun W z => leaves_call (.iface 46 (.agg #[.pointer (some ⟨m, 0, none⟩)])) (.inr ⟨_, _, rfl⟩) rt z W
  have HMv : Hid (∀ j, Mt w0 m vp1 ps1 j → ¬ j = v) := fun j hj e => by
    rcases hj with hj | hj
    · exact hd0 j hj (.inl e)
    · have := h7.1
      omega
  have HFv : Hid (∀ j, Fo v vp ps j → j ≠ m ∧ j < wr.heap.size) := fun j hj => ⟨fun e => hd0 j (.inl e) hj, (h7.fo hj).lt⟩
  have HMl : Hid (∀ j, Mt w0 m vp1 ps1 j → j < wr.heap.size) := fun j hj => h1.mine_lt hj
  have hvl : v < wr.heap.size := h7.2.1.lt
  have hml : m < wr.heap.size := HMl.out m (.inl (.inl rfl))
  have HM0 : Hid (Ty wr m w0 base vr vd vp1 ps1 M rs ds L S n) := h1
  have HPk : Hid (∀ W', Keeps (fun j => j = m ∨ j = v) wr W' → Ty W' m w0 base vr vd vp1 ps1 M rs ds L S (n + 4000) → RM W' base v vr vd vp ps M L S X' → GMt w0 W' base m v vr vd rs ds (M, L, S, NS) (M, L, S, NS) (n + 4000) k) := fun W' hk hy hrm => by
    exact ⟨vp1, ps1, vp, ps, X', hy, g1, hX', hrm, g2, hd0, Nat.le_trans h5 hk.size⟩
  have HSn := Lib.hid hs
  clear h1 h4 h5 h6 h7 hr hd hs hX' hd0 g1 g2
  refine (callsIn_wide (n := 20)).1 ?_
  refine callsIn_of_wp_marks Tryz.func26 rfl trivial ?_ rfl
  simp only [Tryz.ntmps26, List.size_toArray, List.length_cons, List.length_nil, Nat.reduceAdd, Nat.reduceSub, Array.replicate_succ, Array.replicate_zero, List.push_toArray, List.append_toArray, List.nil_append, List.cons_append]
  refine wpIn_wide.2 ?_
  go_wp2_with fail
  obtain ⟨W1, hW1⟩ : ∃ W1, (wr.alloc (Obj.cells #[.int .i64 kd, .int .u64 (rt : Int), .int .u64 (vt0 : Int), .int .u64 (vl : Int), .int .i64 nn] 36)).alloc (Obj.cells #[.bool false] 4) = W1 := ⟨_, rfl⟩
  have HB1 : Hid (Below wr.heap.size wr W1) := hW1 ▸ ((Below.refl _ wr).alloc (Nat.le_refl _) _).alloc (by simp) _
  have hs1 : W1.heap.size = wr.heap.size + 2 := by rw [← hW1]; simp
  have HBr1 : Hid (BoxR W1 (wr.heap.size + 1) false) := by
    have := World.alloc_heap_new (wr.alloc (Obj.cells #[.int .i64 kd, .int .u64 (rt : Int), .int .u64 (vt0 : Int), .int .u64 (vl : Int), .int .i64 nn] 36)) (Obj.cells #[.bool false] 4)
    rw [World.size_alloc, hW1] at this
    exact this
  have hop : W1.heap[wr.heap.size]? = some (.cells #[.int .i64 kd, .int .u64 (rt : Int), .int .u64 (vt0 : Int), .int .u64 (vl : Int), .int .i64 nn] 36 (0, 0)) := by
    rw [← hW1, Below.heap_alloc _ _ _ (by simp)]
    exact World.alloc_heap_new wr _
  have y1 : W1.cell? ⟨wr.heap.size, 1, none⟩ = some (.int .u64 (rt : Int)) := by rw [cell_of_row W1 _ 1 _ _ _ hop]; rfl
  rw [hW1]
  refine (HWi.out W1).mono ?_
  rintro e w1 ⟨z, rfl, hz1, hz2, rfl⟩
  have HRl2 := Lib.hid (HRl.out w1 z hz2 HB1.out)
  clear HWi HRl hW1
  go_wp2_with fail
  refine HRl2.out.mono ?_
  rintro e w2 ⟨vt, bb, rfl, hw2, hm2, hk2⟩
  have hsz2 := hk2.size
  have HW2 := Lib.hid hw2
  have HR2 := Lib.hid hm2
  have HK2 := Lib.hid hk2
  have HBr2 : Hid (BoxR w2 (wr.heap.size + 1) false) := HBr1.out.keeps hk2 (by omega)
  have y2 : w2.cell? ⟨wr.heap.size, 1, none⟩ = some (.int .u64 (rt : Int)) := by rw [cell_of_row w2 _ 1 _ _ _ ((hk2.block wr.heap.size (by omega) (by omega)).trans hop)]; rfl
  have HKw2 : Hid (Keeps (fun j => j = m ∨ j = v) wr w2) := (Keeps.of_below (S := fun j => j = m ∨ j = v) HB1.out).trans hk2 (fun _ _ e => .inr e)
  have HM2 : Hid (Ty w2 m w0 base vr vd vp1 ps1 M rs ds L S n) := (HM0.out.below HB1.out).keeps hk2 HMv.out
  clear HRl2 hw2 hm2 hk2 y1 hop HBr1 HM0 HK2
  obtain ⟨WS, hWS⟩ : ∃ WS, WS = WantF (rs ++ ds) M rt z := ⟨_, rfl⟩
  have HWS := Lib.hid hWS
  rw [← hWS] at HW2
  clear hWS
  obtain ⟨at_, ct_, hvt, hct1, hct2, _⟩ := HW2.out
  obtain ⟨NW, hNW⟩ : ∃ NW, NW = WS.length := ⟨_, rfl⟩
  have HNW := Lib.hid hNW
  rw [← hNW] at hvt hct1
  unfold maxLen at hct2
  subst hvt
  clear hNW
  go_upto_region 3 with fail
  obtain ⟨W3, hW3⟩ : ∃ W3, w2.alloc (Obj.cells #[.slice at_ NW ct_] 116) = W3 := ⟨_, rfl⟩
  have HB3 : Hid (Below w2.heap.size w2 W3) := hW3 ▸ (Below.refl _ _).alloc (Nat.le_refl _) _
  have HLs3 : Hid (LsAt W3 w2.heap.size (.slice at_ NW ct_)) := hW3 ▸ World.alloc_heap_new w2 _
  have y3 : W3.cell? ⟨wr.heap.size, 1, none⟩ = some (.int .u64 (rt : Int)) := (HB3.out.cell (p := ⟨wr.heap.size, 1, none⟩) (by show wr.heap.size < _; omega)).trans y2
  have hs3 : W3.heap.size = w2.heap.size + 1 := by rw [← hW3]; simp
  rw [hW3]
  clear hW3 y2
  go_wp2_with fail
  refine (HVm.out W3 z).mono ?_
  rintro e w4 ⟨rfl, h4a, h4b, h4c, h4d, h4e⟩
  have HA4 := Lib.hid h4a
  have HO4 := Lib.hid h4b
  have HR4c := Lib.hid h4c
  have HS4 := Lib.hid h4d
  have HB4 := Lib.hid h4e
  clear h4a h4b h4c h4d h4e HVm y3
  have hnf := eql_seq_nil
  obtain ⟨c0, hc0⟩ : ∃ c0, c0 = W3.heap.size := ⟨_, rfl⟩
  rw [← hc0] at HA4 HO4 HR4c HS4 ⊢
  obtain ⟨b8, hb8⟩ : ∃ b8, b8 = w2.heap.size := ⟨_, rfl⟩
  rw [← hb8] at HLs3 HW2 ⊢
  have HAr : Hid (m < wr.heap.size ∧ v < wr.heap.size ∧ wr.heap.size + 2 ≤ b8 ∧ c0 = b8 + 1 ∧ w4.heap.size = c0 + 3) := ⟨hml, hvl, by omega, by omega, HS4.out⟩
  have HE4 : Hid (∀ W5, w4.alloc (Obj.cells #[.int .i64 0] 3) = W5 → TlE m w0 base vr vd vp1 ps1 M rs ds L S n v vp ps X' wr (wr.heap.size + 1) b8 c0 (wr.heap.size + 2) rt z (.slice at_ NW ct_) WS 0 w4.heap.size [] W5) := fun W5 hW5 => by
    have hb5 : Below w4.heap.size w4 W5 := hW5 ▸ (Below.refl _ _).alloc (Nat.le_refl _) _
    have hb25 : Below w2.heap.size w2 W5 := HB3.out.trans ((HB4.out.trans (hb5.mono HB4.out.size)).mono HB3.out.size)
    have har := HAr.out
    refine ⟨HM2.out.below hb25, HR2.out.below hb25, HKw2.out.trans (Keeps.of_below (S := fun _ => False) hb25) (fun _ _ e => e.elim), HBr2.out.below hb25, ?_, ?_, hW5 ▸ World.alloc_heap_new w4 _, ?_, ?_, ?_, trivial, by omega⟩
    · exact (HLs3.out.keeps (Keeps.of_below (S := fun _ => False) HB4.out) (fun h => h)).keeps (Keeps.of_below (S := fun _ => False) hb5) (fun h => h)
    · have := HW2.out.keeps (Keeps.of_below (S := fun _ => False) hb25) (fun _ _ _ h => h)
      rw [hs1] at this
      exact this
    · exact (hb5.cell (p := ⟨c0, 0, none⟩) (by show c0 < _; omega)).trans HA4.out
    · exact (hb5.cell (p := ⟨c0 + 2, 0, none⟩) (by show c0 + 2 < _; omega)).trans HO4.out
    · exact (hb5.cell (p := ⟨c0 + 1, 0, none⟩) (by show c0 + 1 < _; omega)).trans HR4c.out
  clear HB3 HB4 HM2 HR2 HKw2 HBr2 HLs3 HW2 HA4 HO4 HR4c HS4 hb8 hc0 hs3 hs1 HB1 hsz2
  go_wp2_with fail
  have HE5 := Lib.hid (HE4.out _ rfl)
  clear HE4 hnf
  obtain ⟨ov, hov⟩ : ∃ ov, Value.agg #[.int .i64 kd, .int .u64 (rt : Int), .int .u64 (vt0 : Int), .int .u64 (vl : Int), .int .i64 nn] = ov := ⟨_, rfl⟩
  rw [hov]
  clear hov
  refine wp_loop (EnT m w0 base vr vd vp1 ps1 M rs ds L S n v vp ps X' wr wr.heap.size (wr.heap.size + 1) b8 c0 (wr.heap.size + 2) rt z (.slice at_ NW ct_) WS ov) (fun a w => leftOf (a.tmps.getD 11 undef) w) ?start ?round
  case start => exact EnT.mk (k := 0) (Nat.zero_le _) HE5
  case round =>
    intro a wq h
    clear HE5
    cases h with
    | mk hk2 HI =>
    rename_i k2 b11 dl u3 u4 u9 u12 u13 u14 u15 u16 u17 u18 u19 u20 u21 u22 u23 u24 u25 u26 u27 u28 u29 u30 u31 u32 u33 u34 u35 u36 u37 u38 u39 u40 u41 u42 u43 u44 u45 u46 u47 u48 u49 u50 u51 u52 u53 u54 u55 u56 u57 u58 u59 u60 u61 u62 u63 u64 u65 u66 u67 u68 u69 u70 u71 u72 u73 u74 u75 u76 u77 u78 u79 u80 u81 u82 u83 u84 u85 u86 u87 u88
    have r0 := HI.out.rnd.cell
    by_cases hlt : k2 < 2
    · have ki : (k2 : Int) < 2 := by omega
      go_wp2_with fail
      obtain ⟨W5, hW5⟩ : ∃ W5, wq.alloc (Obj.cells #[.int .i64 0] 3) = W5 := ⟨_, rfl⟩
      have HB5 : Hid (Below wq.heap.size wq W5) := hW5 ▸ (Below.refl _ _).alloc (Nat.le_refl _) _
      have HN5 : Hid (IntAt W5 wq.heap.size 0) := hW5 ▸ World.alloc_heap_new wq _
      have hs5 : W5.heap.size = wq.heap.size + 1 := by rw [← hW5]; simp
      rw [hW5]
      clear hW5 r0
      obtain ⟨b12, hb12⟩ : ∃ b12, b12 = wq.heap.size := ⟨_, rfl⟩
      rw [← hb12] at HN5 hs5 ⊢
      have hb11 : b11 < b12 := by rw [hb12]; exact HI.out.rnd.lt
      have HAq : Hid (c0 + 3 ≤ b11 ∧ b11 < b12 ∧ W5.heap.size = b12 + 1 ∧ b12 = wq.heap.size) := ⟨HI.out.big, hb11, hs5, hb12⟩
      clear hb12 hb11 hs5
      obtain ⟨hh, hhh⟩ : ∃ hh, hh = if k2 = 0 then NW / 2 else NW := ⟨_, rfl⟩
      have HHh := Lib.hid hhh
      clear hhh
      refine (wpIn_wide (n := 20)).1 ?_
      refine range_out (F := Fence.wide) rfl (by decide) (gf := 78) (lb := #[.pointer (some ⟨c0, 0, none⟩), .pointer (some ⟨c0 + 2, 0, none⟩), .pointer (some ⟨c0 + 1, 0, none⟩)]) rfl trivial (enters_of Tryz.func78 (by kernel_rfl) rfl)
        (fun V9 => TlD m w0 base vr vd vp1 ps1 M rs ds L S (n + 2000 * (k2 + 1)) (wr.heap.size + 1) b12 k2 NW W5 V9) (fun c V9 => c = .exit 2 ∧ TlD m w0 base vr vd vp1 ps1 M rs ds L S (n + 2000 * (k2 + 1)) (wr.heap.size + 1) b12 k2 NW W5 V9) ?it ?fin ?stop
      case it =>
        intro W1 r _ hrt hrp hra hrb hW1
        obtain ⟨l0, hl0⟩ : ∃ l, l = W5.heap.size + 1 := ⟨_, rfl⟩
        have HRc : Hid (RecAt W1 l0 r .ready none) := by
          have := World.alloc_heap_new (W5.alloc (.deferred (some []))) (.loop (recS r .ready none))
          rw [World.size_alloc, ← hW1, ← hl0] at this
          exact this
        have HDf : Hid (W1.heap[W5.heap.size]? = some (.deferred (some []))) := by
          show _ = _
          rw [hW1, Below.heap_alloc _ _ _ (by simp)]
          exact World.alloc_heap_new _ _
        have HBr : Hid (Below W5.heap.size W5 W1) := hW1 ▸ (((Below.refl _ W5).alloc (Nat.le_refl _) _).alloc (by simp) _)
        have hsz1 : W1.heap.size = W5.heap.size + 2 := by rw [hW1]; simp
        clear hW1
        have HA1 : Hid (m < wr.heap.size ∧ v < wr.heap.size ∧ wr.heap.size + 2 ≤ b8 ∧ c0 = b8 + 1 ∧ c0 + 3 ≤ b11 ∧ b11 < b12 ∧ W5.heap.size = b12 + 1 ∧ l0 = W5.heap.size + 1 ∧ W1.heap.size = W5.heap.size + 2) := ⟨HAr.out.1, HAr.out.2.1, HAr.out.2.2.1, HAr.out.2.2.2.1, HAq.out.1, HAq.out.2.1, HAq.out.2.2.1, hl0, hsz1⟩
        rw [← hl0]
        clear hl0 hsz1
        have HMz : Hid (∀ j, Mt w0 m vp1 ps1 j → j < wr.heap.size) := HMl.out
        have HP1 : Hid (TC m w0 base vr vd vp1 ps1 M rs ds L S (n + 2000 * k2) l0 r (wr.heap.size + 1) b8 b11 b12 (wr.heap.size + 2) k2 (.slice at_ NW ct_) WS (0, 0, 0) W1) := by
          have hb : Below wq.heap.size wq W1 := HB5.out.trans (HBr.out.mono HB5.out.size)
          have hbk := Keeps.of_below (S := fun _ => False) hb
          exact ⟨HI.out.mac.below hb, HRc.out, HN5.out.below HBr.out, HI.out.rnd.below hb, HI.out.want.keeps hbk (fun _ _ _ h => h), HI.out.row.keeps hbk (fun h => h), HI.out.res.below hb⟩
        have HTell : Hid (∀ n' W (s : SP) (x : T7), s.2.2 = 0 → W1.heap.size ≤ W.heap.size → TC m w0 base vr vd vp1 ps1 M rs ds L S (n + 2000 * k2) l0 r (wr.heap.size + 1) b8 b11 b12 (wr.heap.size + 2) k2 (.slice at_ NW ct_) WS s W → YieldAt Fence.wide n' Tryz.prog l0 #[.agg #[.int .u64 x.1, .int .u64 x.2.1, .int .i64 x.2.2.1, .bool x.2.2.2.1, .bool x.2.2.2.2.1, .bool x.2.2.2.2.2.1], .int .i64 x.2.2.2.2.2.2] W fun e W' => e = .returned (.bool (goP WS hh s x)) ∧ ((nxP WS hh s x).2.2 < 2 → TC m w0 base vr vd vp1 ps1 M rs ds L S (n + 2000 * k2) l0 r (wr.heap.size + 1) b8 b11 b12 (wr.heap.size + 2) k2 (.slice at_ NW ct_) WS (nxP WS hh s x) W') ∧ Keeps (fun j => j = m ∨ j = b12 ∨ j = l0 ∨ j = wr.heap.size + 1) W W') := fun n' W s x hst hN hP => by
          obtain ⟨s1, i, st⟩ := s
          obtain ⟨xa, xb, xc, xd, xe, xf, xy⟩ := x
          dsimp only at hst hP ⊢
          subst hst
          have hrec : RecAt W l0 r .ready none := hP.record
          have hlw := hrec.lt
          refine yield_of (F := Fence.wide) hrec (by rw [hrp]; rfl) trivial ?_
          rw [hra, hrt, hrp]
          have HP := Lib.hid hP
          clear hP
          gi_wp2
          refine ⟨(Below.heap_alloc W _ _ hlw).trans hrec, ?_⟩
          intro hbusy
          try rw [hrb]
          obtain ⟨Vb, hVb⟩ : ∃ Vb, (W.alloc (Obj.cells #[.int .u64 xa, .int .u64 xb, .int .i64 xc, .bool xd, .bool xe, .bool xf] 123)).putObj l0 (.loop (recS r .busy none)) = Vb := ⟨_, rfl⟩
          have HKb : Hid (Keeps (fun j => j = l0) W Vb) := hVb ▸ (Keeps.alloc (S := fun j => j = l0) W _).trans (Keeps.putObj _ l0 _) (fun _ _ e => e)
          have hlf : Vb.heap[W.heap.size]? = some (.cells #[.int .u64 xa, .int .u64 xb, .int .i64 xc, .bool xd, .bool xe, .bool xf] 123 (0, 0)) := by
            rw [← hVb, World.putObj_heap_other (by omega)]
            exact World.alloc_heap_new W _
          have f0 : Vb.cell? ⟨W.heap.size, 0, none⟩ = some (.int .u64 xa) := by rw [cell_of_row Vb _ 0 _ _ _ hlf]; rfl
          have f1 : Vb.cell? ⟨W.heap.size, 1, none⟩ = some (.int .u64 xb) := by rw [cell_of_row Vb _ 1 _ _ _ hlf]; rfl
          have f2 : Vb.cell? ⟨W.heap.size, 2, none⟩ = some (.int .i64 xc) := by rw [cell_of_row Vb _ 2 _ _ _ hlf]; rfl
          have f3 : Vb.cell? ⟨W.heap.size, 3, none⟩ = some (.bool xd) := by rw [cell_of_row Vb _ 3 _ _ _ hlf]; rfl
          have f4 : Vb.cell? ⟨W.heap.size, 4, none⟩ = some (.bool xe) := by rw [cell_of_row Vb _ 4 _ _ _ hlf]; rfl
          have f5 : Vb.cell? ⟨W.heap.size, 5, none⟩ = some (.bool xf) := by rw [cell_of_row Vb _ 5 _ _ _ hlf]; rfl
          rw [hVb] at hbusy ⊢
          clear hVb hlf
          have HBu := Lib.hid hbusy
          clear hbusy hrec
          have HA2 : Hid (m < wr.heap.size ∧ wr.heap.size + 2 ≤ b8 ∧ b8 < b11 ∧ b11 < b12 ∧ b12 < l0 ∧ l0 < W1.heap.size) := by
            show _ ∧ _
            have := HA1.out
            omega
          have HNb : Hid (IntAt Vb b12 (i : Int)) := HP.out.cnt.keeps HKb.out (by have := HA2.out; omega)
          have HRb : Hid (IntAt Vb b11 (k2 : Int)) := HP.out.rnd.keeps HKb.out (by have := HA2.out; omega)
          have HLb : Hid (LsAt Vb b8 (.slice at_ NW ct_)) := HP.out.row.keeps HKb.out (by have := HA2.out; omega)
          have HWb : Hid (WantAt (wr.heap.size + 2) b8 Vb (.slice at_ NW ct_) WS) := HP.out.want.keeps HKb.out (fun j h1 h2 e => by have := HA2.out; omega)
          have HSb : Hid (BoxR Vb (wr.heap.size + 1) false) := HP.out.res.keeps HKb.out (by have := HA2.out; omega)
          have HMb : Hid (Ty Vb m w0 base vr vd vp1 ps1 M rs ds L S (n + 2000 * k2 + s1)) := HP.out.mac.keeps HKb.out (fun j hj e => by have := HMz.out j hj; have := HA2.out; omega)
          have HBad : Hid (¬ WS[i]? = some (xa, xb, xc, xd, xe, xf, xy) → ∀ V', Keeps (fun j => j = wr.heap.size + 1) Vb V' → RecAt V' l0 r .busy none ∧ (Ending.returned (.bool false) = .returned (.bool (goP WS hh (s1, i, 0) (xa, xb, xc, xd, xe, xf, xy))) ∧ ((nxP WS hh (s1, i, 0) (xa, xb, xc, xd, xe, xf, xy)).2.2 < 2 → TC m w0 base vr vd vp1 ps1 M rs ds L S (n + 2000 * k2) l0 r (wr.heap.size + 1) b8 b11 b12 (wr.heap.size + 2) k2 (.slice at_ NW ct_) WS (nxP WS hh (s1, i, 0) (xa, xb, xc, xd, xe, xf, xy)) (V'.putObj l0 (.loop (recS r .done (some .ret))))) ∧ Keeps (fun j => j = m ∨ j = b12 ∨ j = l0 ∨ j = wr.heap.size + 1) W (V'.putObj l0 (.loop (recS r .done (some .ret)))))) := fun hne V' hk => by
            have ha2 := HA2.out
            have hg : goP WS hh (s1, i, 0) (xa, xb, xc, xd, xe, xf, xy) = false := goP_bad hne
            have hx : nxP WS hh (s1, i, 0) (xa, xb, xc, xd, xe, xf, xy) = (s1, i, 2) := nxP_bad hne
            refine ⟨(hk.block l0 HBu.out.lt (by omega)).trans HBu.out, by rw [hg], fun h => ?_, ?_⟩
            · rw [hx] at h
              exact absurd (show (2 : Nat) < 2 from h) (by decide)
            · exact ((HKb.out.mono (S' := fun j => j = m ∨ j = b12 ∨ j = l0 ∨ j = wr.heap.size + 1) (fun _ _ e => .inr (.inr (.inl e)))).trans hk (fun _ _ e => .inr (.inr (.inr e)))).trans (Keeps.putObj _ l0 _) (fun _ _ e => .inr (.inr (.inl e)))
          have HOn : Hid (∀ st (stt : LoopState) (pe : Option Code) V', stt = (if st = 0 then .ready else .done) → pe = (if st = 0 then none else some (.exit 2)) → Keeps (fun j => j = b12) Vb V' → IntAt V' b12 ((i + 1 : Nat) : Int) → RecAt V' l0 r .busy none ∧ TC m w0 base vr vd vp1 ps1 M rs ds L S (n + 2000 * k2) l0 r (wr.heap.size + 1) b8 b11 b12 (wr.heap.size + 2) k2 (.slice at_ NW ct_) WS (s1, i + 1, st) (V'.putObj l0 (.loop (recS r stt pe))) ∧ Keeps (fun j => j = m ∨ j = b12 ∨ j = l0 ∨ j = wr.heap.size + 1) W (V'.putObj l0 (.loop (recS r stt pe)))) := fun st stt pe V' e1 e2 hk hi => by
            have ha2 := HA2.out
            have hrb : RecAt V' l0 r .busy none := (hk.block l0 HBu.out.lt (by omega)).trans HBu.out
            have hp := Keeps.putObj V' l0 (.loop (recS r stt pe))
            refine ⟨hrb, ⟨?_, ?_, hi.keeps hp (by omega), (HRb.out.keeps hk (by omega)).keeps hp (by omega), (HWb.out.keeps hk (fun j h1 h2 e => by omega)).keeps hp (fun j h1 h2 e => by omega), (HLb.out.keeps hk (by omega)).keeps hp (by omega), (HSb.out.keeps hk (by omega)).keeps hp (by omega)⟩, ?_⟩
            · exact (HMb.out.keeps hk (fun j hj e => by have := HMz.out j hj; omega)).keeps hp (fun j hj e => by have := HMz.out j hj; omega)
            · subst e1 e2
              exact World.putObj_heap_same hrb.lt
            · exact ((HKb.out.mono (S' := fun j => j = m ∨ j = b12 ∨ j = l0 ∨ j = wr.heap.size + 1) (fun _ _ e => .inr (.inr (.inl e)))).trans hk (fun _ _ e => .inr (.inl e))).trans hp (fun _ _ e => .inr (.inr (.inl e)))
          have HDone : Hid (WS[i]? = some (xa, xb, xc, xd, xe, xf, xy) → ∀ V', Keeps (fun j => j = b12) Vb V' → IntAt V' b12 ((i + 1 : Nat) : Int) → (hh < i + 1 → RecAt V' l0 r .busy none ∧ (Ending.returned (.bool false) = .returned (.bool (goP WS hh (s1, i, 0) (xa, xb, xc, xd, xe, xf, xy))) ∧ ((nxP WS hh (s1, i, 0) (xa, xb, xc, xd, xe, xf, xy)).2.2 < 2 → TC m w0 base vr vd vp1 ps1 M rs ds L S (n + 2000 * k2) l0 r (wr.heap.size + 1) b8 b11 b12 (wr.heap.size + 2) k2 (.slice at_ NW ct_) WS (nxP WS hh (s1, i, 0) (xa, xb, xc, xd, xe, xf, xy)) (V'.putObj l0 (.loop (recS r .done (some (.exit 2)))))) ∧ Keeps (fun j => j = m ∨ j = b12 ∨ j = l0 ∨ j = wr.heap.size + 1) W (V'.putObj l0 (.loop (recS r .done (some (.exit 2))))))) ∧ (¬ hh < i + 1 → RecAt V' l0 r .busy none ∧ (Ending.returned (.bool true) = .returned (.bool (goP WS hh (s1, i, 0) (xa, xb, xc, xd, xe, xf, xy))) ∧ ((nxP WS hh (s1, i, 0) (xa, xb, xc, xd, xe, xf, xy)).2.2 < 2 → TC m w0 base vr vd vp1 ps1 M rs ds L S (n + 2000 * k2) l0 r (wr.heap.size + 1) b8 b11 b12 (wr.heap.size + 2) k2 (.slice at_ NW ct_) WS (nxP WS hh (s1, i, 0) (xa, xb, xc, xd, xe, xf, xy)) (V'.putObj l0 (.loop (recS r .ready none)))) ∧ Keeps (fun j => j = m ∨ j = b12 ∨ j = l0 ∨ j = wr.heap.size + 1) W (V'.putObj l0 (.loop (recS r .ready none)))))) := fun hok V' hk hi => by
            refine ⟨fun hb => ?_, fun hb => ?_⟩
            · have hg : goP WS hh (s1, i, 0) (xa, xb, xc, xd, xe, xf, xy) = false := goP_no hb
              have hx : nxP WS hh (s1, i, 0) (xa, xb, xc, xd, xe, xf, xy) = (s1, i + 1, 1) := (nxP_ok hok).trans (by rw [if_pos hb])
              obtain ⟨r1, r2, r3⟩ := HOn.out 1 .done (some (.exit 2)) V' rfl rfl hk hi
              rw [hg, hx]
              exact ⟨r1, rfl, fun _ => r2, r3⟩
            · have hg : goP WS hh (s1, i, 0) (xa, xb, xc, xd, xe, xf, xy) = true := goP_yes hok hb
              have hx : nxP WS hh (s1, i, 0) (xa, xb, xc, xd, xe, xf, xy) = (s1, i + 1, 0) := (nxP_ok hok).trans (by rw [if_neg hb])
              obtain ⟨r1, r2, r3⟩ := HOn.out 0 .ready none V' rfl rfl hk hi
              rw [hg, hx]
              exact ⟨r1, rfl, fun _ => r2, r3⟩
          have HKd : Hid (∀ q u g, Keeps (fun j => j = g) Vb ((Vb.drewN q).setCell ⟨g, 0, none⟩ u)) := fun q u g => (Keeps.of_below (S := fun j => j = g) (below_drewNn Vb q)).trans (Keeps.setCell _ g 0 u) (fun _ _ e => e)
          have t0 := HNb.out.cell
          have t1 := HNb.out.frozen
          have t2 := HRb.out.cell
          have t3 := HLb.out.cell
          obtain ⟨t4, t5⟩ := HSb.out.cell
          have HIs : Hid (∀ q, IntAt ((Vb.drewN q).setCell ⟨b12, 0, none⟩ (.int .i64 ((i : Int) + 1))) b12 ((i + 1 : Nat) : Int)) := fun q => by
            have : IntAt (Vb.drewN q) b12 (i : Int) := HNb.out.below (below_drewNn Vb q)
            have h2 := this.set ((i : Int) + 1)
            exact h2
          clear HNb HRb HLb HSb HMb HKb HBu HP HBr HP1 HDf HRc HN5 HB5 HI
          by_cases hi : i < NW
          · have hiw : i < WS.length := by rw [← HNW.out]; exact hi
            obtain ⟨g, hat, d0, d1, d2, d3, d4, d5, d6⟩ := HWb.out.cells i hiw
            subst hat
            have HEq : Hid (WS[i]? = some (WS[i]'hiw)) := List.getElem?_eq_getElem hiw
            generalize WS[i]'hiw = wx at d0 d1 d2 d3 d4 d5 d6 HEq
            obtain ⟨ya, yb, yc, yd, ye, yf, yy⟩ := wx
            dsimp only at d0 d1 d2 d3 d4 d5 d6
            have g1 : ¬ (NW : Int) ≤ (i : Int) := by omega
            have g2 : decide ((NW : Int) ≤ (i : Int)) = false := decide_eq_false g1
            have g3 : decide (NW ≤ i) = false := decide_eq_false (by omega)
            have g4 : (i : Int) < (NW : Int) := by omega
            have hgl : ∀ W x y a b c d e f a' b' c' d' e' f', (eqGuard .neq 123 x y (.agg #[.int .u64 a, .int .u64 b, .int .i64 c, .bool d, .bool e, .bool f]) (.agg #[.int .u64 a', .int .u64 b', .int .i64 c', .bool d', .bool e', .bool f'])).run Tryz.prog W = .ok () W := fun W x y a b c d e f a' b' c' d' e' f' => run_eqGuard_agg W _ _ _ _ _ _ guardL
            have hq := fun W => nqlL W xa xb xc xd xe xf ya yb yc yd ye yf
            cases hqb : ((xa == ya) && (xb == yb) && (xc == yc) && (xd == yd) && (xe == ye) && (xf == yf)) with
            | false =>
              have hne : ¬ WS[i]? = some (xa, xb, xc, xd, xe, xf, xy) := fun e => by
                rw [HEq.out] at e
                simp only [Option.some.injEq, Prod.mk.injEq] at e
                obtain ⟨rfl, rfl, rfl, rfl, rfl, rfl, _⟩ := e
                simp at hqb
              have HG2 := Lib.hid (HBad.out hne)
              have hq3 := fun W => (hq W).trans (by rw [hqb]; rfl : _ = Result.ok (Value.bool true) W)
              clear HBad HOn HDone hq hqb HEq HWb hne HIs
              gi_wp2
              refine region_quiet_round (F := Fence.wide) rfl (by kernel_rfl) (by kernel_rfl) (by kernel_rfl) ?_
              repeat (gi_big_quiet_step (fail))
              refine wpQuietIn_nil ?_
              intro _ hw'
              obtain ⟨nq, hw''⟩ := hw'
              subst hw''
              gi_wp2
              exact HG2.out _ (HKd.out _ _ _)
            | true =>
              simp only [Bool.and_eq_true, beq_iff_eq] at hqb
              obtain ⟨⟨⟨⟨⟨rfl, rfl⟩, rfl⟩, rfl⟩, rfl⟩, rfl⟩ := hqb
              have hq3 := fun W => (hq W).trans (by simp : _ = Result.ok (Value.bool false) W)
              clear hq
              by_cases hyy : xy = yy
              · subst hyy
                have HG2 := Lib.hid (HDone.out HEq.out)
                have hn1 : b11 ≠ b12 := by have := HA2.out; omega
                have hn2 : b8 ≠ b12 := by have := HA2.out; omega
                have hwi : IntKind.i64.wrap ((i : Int) + 1) = (i : Int) + 1 := by rw [IntKind.wrap_i64]; omega
                have hq2 : (NW : Int).tdiv 2 = ((NW / 2 : Nat) : Int) := by rw [Int.tdiv_eq_ediv_of_nonneg (by omega)]; omega
                clear HBad HOn HDone HEq HWb
                rcases (by omega : k2 = 0 ∨ k2 = 1) with rfl | rfl
                · have hhe : hh = NW / 2 := HHh.out
                  obtain ⟨H2, hH2⟩ : ∃ H2, H2 = NW / 2 := ⟨_, rfl⟩
                  rw [← hH2] at hhe hq2
                  have hHb : H2 ≤ 4611686018427387904 := by omega
                  clear hH2
                  by_cases hb : H2 < i + 1
                  · have HG3 : Hid (∀ V', Keeps (fun j => j = b12) Vb V' → IntAt V' b12 ((i + 1 : Nat) : Int) → _) := fun V' h1 h2 => (HG2.out V' h1 h2).1 (by rw [hhe]; exact hb)
                    have hb1 : (H2 : Int) < (i : Int) + 1 := by omega
                    have hb2 : decide ((H2 : Int) < (i : Int) + 1) = true := decide_eq_true hb1
                    clear HG2 hhe HHh
                    gi_wp2
                    refine region_quiet_round (F := Fence.wide) rfl (by kernel_rfl) (by kernel_rfl) (by kernel_rfl) ?_
                    repeat (gi_big_quiet_step (fail))
                    refine wpQuietIn_nil ?_
                    intro _ hw'
                    obtain ⟨nq, hw''⟩ := hw'
                    subst hw''
                    gi_wp2
                    exact HG3.out _ (HKd.out _ _ _) (HIs.out _)
                  · have HG3 : Hid (∀ V', Keeps (fun j => j = b12) Vb V' → IntAt V' b12 ((i + 1 : Nat) : Int) → _) := fun V' h1 h2 => (HG2.out V' h1 h2).2 (by rw [hhe]; exact hb)
                    have hb1 : ¬ (H2 : Int) < (i : Int) + 1 := by omega
                    have hb2 : decide ((H2 : Int) < (i : Int) + 1) = false := decide_eq_false hb1
                    clear HG2 hhe HHh
                    gi_wp2
                    refine region_quiet_round (F := Fence.wide) rfl (by kernel_rfl) (by kernel_rfl) (by kernel_rfl) ?_
                    repeat (gi_big_quiet_step (fail))
                    refine wpQuietIn_nil ?_
                    intro _ hw'
                    obtain ⟨nq, hw''⟩ := hw'
                    subst hw''
                    gi_wp2
                    exact HG3.out _ (HKd.out _ _ _) (HIs.out _)
                · have hhe : hh = NW := HHh.out
                  have HG3 : Hid (∀ V', Keeps (fun j => j = b12) Vb V' → IntAt V' b12 ((i + 1 : Nat) : Int) → _) := fun V' h1 h2 => (HG2.out V' h1 h2).2 (by rw [hhe]; omega)
                  clear HG2 hhe HHh
                  gi_wp2
                  refine region_quiet_round (F := Fence.wide) rfl (by kernel_rfl) (by kernel_rfl) (by kernel_rfl) ?_
                  repeat (gi_big_quiet_step (fail))
                  refine wpQuietIn_nil ?_
                  intro _ hw'
                  obtain ⟨nq, hw''⟩ := hw'
                  subst hw''
                  gi_wp2
                  exact HG3.out _ (HKd.out _ _ _) (HIs.out _)
              · have hne : ¬ WS[i]? = some (xa, xb, xc, xd, xe, xf, xy) := fun e => by
                  rw [HEq.out] at e
                  simp only [Option.some.injEq, Prod.mk.injEq] at e
                  exact hyy e.2.2.2.2.2.2.symm
                have HG2 := Lib.hid (HBad.out hne)
                have hy2 : (xy != yy) = true := by simpa using hyy
                have hy3 : (xy == yy) = false := by simpa using hyy
                clear HBad HOn HDone HEq HWb hne HIs
                gi_wp2
                refine region_quiet_round (F := Fence.wide) rfl (by kernel_rfl) (by kernel_rfl) (by kernel_rfl) ?_
                repeat (gi_big_quiet_step (fail))
                refine wpQuietIn_nil ?_
                intro _ hw'
                obtain ⟨nq, hw''⟩ := hw'
                subst hw''
                gi_wp2
                exact HG2.out _ (HKd.out _ _ _)
          · have hne : ¬ WS[i]? = some (xa, xb, xc, xd, xe, xf, xy) := fun e => by
              rw [List.getElem?_eq_none (by rw [← HNW.out]; omega)] at e
              cases e
            have HG2 := Lib.hid (HBad.out hne)
            have g1 : (NW : Int) ≤ (i : Int) := by omega
            have g2 : decide ((NW : Int) ≤ (i : Int)) = true := decide_eq_true g1
            have g3 : decide (NW ≤ i) = true := decide_eq_true (by omega)
            clear HBad HOn HDone HWb hne HIs
            gi_wp2
            refine region_quiet_round (F := Fence.wide) rfl (by kernel_rfl) (by kernel_rfl) (by kernel_rfl) ?_
            repeat (gi_big_quiet_step (fail))
            refine wpQuietIn_nil ?_
            intro _ hw'
            obtain ⟨nq, hw''⟩ := hw'
            subst hw''
            gi_wp2
            exact HG2.out _ (HKd.out _ _ _)
        have HEnd : Hid (∀ e W' (s : SP), (∃ u, e = Ending.returned u) → TC m w0 base vr vd vp1 ps1 M rs ds L S (n + 2000 * k2) l0 r (wr.heap.size + 1) b8 b11 b12 (wr.heap.size + 2) k2 (.slice at_ NW ct_) WS s W' → s.2.2 < 2 → Keeps (fun j => j = m ∨ j = b12 ∨ j = l0 ∨ j = wr.heap.size + 1) W1 W' → s.1 ≤ 2000 → (s.2.1 = NW ∨ (k2 = 0 ∧ NW / 2 < s.2.1 ∧ s.2.1 < NW)) → IterP l0 r (fun V9 => TlD m w0 base vr vd vp1 ps1 M rs ds L S (n + 2000 * (k2 + 1)) (wr.heap.size + 1) b12 k2 NW W5 V9) (fun c V9 => c = .exit 2 ∧ TlD m w0 base vr vd vp1 ps1 M rs ds L S (n + 2000 * (k2 + 1)) (wr.heap.size + 1) b12 k2 NW W5 V9) e W') := fun e W' s he hp hst hk h1 h2 => by
          have ha1 := HA1.out
          have hD : ∀ pe, TlD m w0 base vr vd vp1 ps1 M rs ds L S (n + 2000 * (k2 + 1)) (wr.heap.size + 1) b12 k2 NW W5 (W'.putObj l0 (.loop (recS r .exhausted pe))) := fun pe => by
            have hpo := Keeps.putObj W' l0 (.loop (recS r .exhausted pe))
            refine ⟨((hp.mac.mono (by omega)).keeps hpo (fun j hj e => by have := HMz.out j hj; omega)), ⟨s.2.1, hp.cnt.keeps hpo (by omega), h2⟩, hp.res.keeps hpo (by omega), ((Keeps.of_below (S := fun j => j = m ∨ j = b12 ∨ j = wr.heap.size + 1) HBr.out).trans hk (fun i hi e => by omega)).trans hpo (fun i hi e => by omega), ?_⟩
            rw [World.putObj_heap_other (by omega)]
            exact (hk.block _ (by omega) (by omega)).trans HDf.out
          refine ⟨he, ?_⟩
          by_cases h0 : s.2.2 = 0
          · have hr := hp.record
            rw [if_pos h0, if_pos h0] at hr
            exact .inl ⟨hr, hD none⟩
          · have hr := hp.record
            rw [if_neg h0, if_neg h0] at hr
            exact .inr ⟨.exit 2, hr, rfl, hD (some (.exit 2))⟩
        have hb1 : Below wq.heap.size wq W1 := HB5.out.trans (HBr.out.mono HB5.out.size)
        have hwq : c0 + 3 ≤ wq.heap.size := by have := HAq.out; omega
        have hbm : W1.cell? ⟨c0, 0, none⟩ = some (.iface 46 (.agg #[.pointer (some ⟨m, 0, none⟩)])) := (hb1.cell (p := ⟨c0, 0, none⟩) (by show c0 < _; omega)).trans HI.out.cm
        have hbo : W1.cell? ⟨c0 + 2, 0, none⟩ = some (.int .i64 z) := (hb1.cell (p := ⟨c0 + 2, 0, none⟩) (by show c0 + 2 < _; omega)).trans HI.out.co
        have hbr : W1.cell? ⟨c0 + 1, 0, none⟩ = some (.int .u64 (rt : Int)) := (hb1.cell (p := ⟨c0 + 1, 0, none⟩) (by show c0 + 1 < _; omega)).trans HI.out.cr
        have ha1 := HA1.out
        by_cases hz : z < 1
        · have hws : WS = [] := HWS.out.trans (if_pos hz)
          have hnw : NW = 0 := by rw [HNW.out, hws]; rfl
          refine (leaves1_no (n := 20 - 1) (l0 := l0) (Br := c0 + 1) hbm hbo hz).mono ?_
          rintro e W' ⟨he, hb⟩
          refine HEnd.out e W' (0, 0, 0) he ?_ (by decide) (Keeps.of_below hb) (by decide) (.inl hnw.symm)
          exact HP1.out.keeps (Keeps.of_below (S := fun _ => False) hb) (fun _ _ h => h) (fun h => h) (fun h => h) (fun h => h) (fun _ _ _ h => h) (fun h => h) (fun h => h)
        · obtain ⟨most, rfl⟩ : ∃ q : Nat, z = (q : Int) := ⟨z.toNat, by omega⟩
          by_cases hr4 : rt % 4096 = 0
          · obtain ⟨want, hwant⟩ : ∃ want, want = (allS (lkL (fL (rs ++ ds) M)) ydL ctL rt { s := [], left := most, go := true }).s := ⟨_, rfl⟩
            have hws : WS = want.map td := by
              rw [HWS.out, WantF, if_neg hz, if_pos hr4, hwant, Int.toNat_natCast]
            have hnl : want.length = NW := by rw [HNW.out, hws, List.length_map]
            have E : LvEnv (lkP (fL (rs ++ ds) M) (onB (rs ++ ds))) (ydP WS hh) (ctP WS hh) (fun s => s.2.2 = 0) (fun s => s.1) 1000000000000 (fun s W => s.2.2 < 2 → TC m w0 base vr vd vp1 ps1 M rs ds L S (n + 2000 * k2) l0 r (wr.heap.size + 1) b8 b11 b12 (wr.heap.size + 2) k2 (.slice at_ NW ct_) WS s W) (fun j => j = m ∨ j = b12 ∨ j = l0 ∨ j = wr.heap.size + 1) W1.heap.size l0 46 (.agg #[.pointer (some ⟨m, 0, none⟩)]) := by
              refine ⟨⟨fun s a b c h => h, fun s x h1 h2 => ?_⟩, ?_, ?_, ?_, fun s fr i lev => look_frm _ _ _ _, ?_, fun s a b c => ?_, fun s x => ?_⟩
              · rw [ctP_go] at h2
                have h3 := goP_true h2
                show (ydP WS hh s x).2.2 = 0
                rw [ydP_nx, nxP_ok h3.1, if_neg h3.2]
              · intro s A B' h hb hs
                have hk : Keeps (fun j => W1.heap.size ≤ j) A B' := ⟨hb.os, hb.tape, hb.output, hb.size, fun i hi hn => hb.block i (by omega)⟩
                exact (h hs).keeps hk (fun j hj => by have := HMz.out j hj; omega) (by omega) (by omega) (by omega) (fun j _ _ => by omega) (by omega) (by omega)
              · intro j hj
                omega
              · intro s W fr i lev hlev hi hfr hc hs hN hI
                have hp := hI (by omega)
                refine (look_ty (t := fr) (k := i) (l := (lev : Int)) hp.mac (by omega) (by have : s.1 < 1000000000000 := hc; omega)).mono ?_
                rintro e w' ⟨rfl, hm', hk'⟩
                refine ⟨rfl, fun _ => ?_, hk'.mono (fun _ _ e => .inl e)⟩
                have hp2 := hp.record
                refine ⟨?_, (hk'.block l0 hp.record.lt (show ¬ l0 = m by omega)).trans hp.record, hp.cnt.keeps hk' (show ¬ b12 = m by omega), hp.rnd.keeps hk' (show ¬ b11 = m by omega), hp.want.keeps hk' (fun j h1 h2 e => by have e : j = m := e; omega), hp.row.keeps hk' (show ¬ b8 = m by omega), hp.res.keeps hk' (show ¬ wr.heap.size + 1 = m by omega)⟩
                show Ty w' m w0 base vr vd vp1 ps1 M rs ds L S (n + 2000 * k2 + (s.1 + _))
                rw [← Nat.add_assoc]
                exact hm'
              · intro n' s W x hx1 hx2 hx3 hs hN hI
                refine (HTell.out n' W s (td x) hs hN (hI (by omega))).mono ?_
                rintro e W' ⟨rfl, h1, h2⟩
                rw [ctP_go, ydP_nx]
                exact ⟨rfl, h1, h2⟩
              · show s.1 + (if onB (rs ++ ds) (a + 8 * b) = true then 0 else 1) ≤ s.1 + 1
                split <;> omega
              · rw [ydP_fst]
                exact Nat.le_refl _
            have hre := round_end (f := fL (rs ++ ds) M) (g := onB (rs ++ ds)) (want := want) (fun a l h => look_off h) rt most (by omega) hh 0 hwant
            rw [← hws] at hre
            refine (leaves1_any E (n := 20 - 1) (root := rt) (most := most) (s0 := (0, 0, 0)) (by decide) rfl hbm (by omega) hbo hbr hr4 (by omega) (by omega) (by omega) (by show 0 + 134480384 ≤ 1000000000000; omega) rfl (fun _ => HP1.out)).mono ?_
            rintro e W' ⟨he, hI', hk'⟩
            generalize allS (lkP (fL (rs ++ ds) M) (onB (rs ++ ds))) (ydP WS hh) (ctP WS hh) rt { s := (0, 0, 0), left := most, go := true } = TT at hre hI'
            obtain ⟨hre, hst⟩ := hre
            rw [hnl] at hre
            have hlt2 : TT.s.2.2 < 2 := by rcases hre with h | h <;> omega
            refine HEnd.out e W' TT.s he (hI' hlt2) hlt2 hk' (by omega) ?_
            rcases hre with ⟨_, h⟩ | ⟨_, h1, h2⟩
            · exact .inl h
            · by_cases hk0 : k2 = 0
              · have hhe : hh = NW / 2 := by rw [HHh.out, if_pos hk0]
                by_cases hen : TT.s.2.1 = NW
                · exact .inl hen
                · exact .inr ⟨hk0, by omega, by omega⟩
              · have hhe : hh = NW := by rw [HHh.out, if_neg hk0]
                omega
          · have hws : WS = [(0, 0, 134217728, false, false, false, 42)] := by
              rw [HWS.out, WantF, if_neg hz, if_neg hr4]
            have hnw : NW = 1 := by rw [HNW.out, hws]; rfl
            have hok : WS[0]? = some (0, 0, 134217728, false, false, false, 42) := by rw [hws]; rfl
            have hnx : nxP WS hh (0, 0, 0) (0, 0, 134217728, false, false, false, 42) = (0, 0 + 1, if hh < 0 + 1 then 1 else 0) := nxP_ok hok
            have hn2 : (nxP WS hh (0, 0, 0) (0, 0, 134217728, false, false, false, 42)).2.2 < 2 := by
              rw [hnx]
              show (if hh < 0 + 1 then 1 else 0) < 2
              split <;> omega
            refine (leaves1_bad (n := 20 - 1) (bk := goP WS hh (0, 0, 0) (0, 0, 134217728, false, false, false, 42)) (R := fun W' => TC m w0 base vr vd vp1 ps1 M rs ds L S (n + 2000 * k2) l0 r (wr.heap.size + 1) b8 b11 b12 (wr.heap.size + 2) k2 (.slice at_ NW ct_) WS (nxP WS hh (0, 0, 0) (0, 0, 134217728, false, false, false, 42)) W' ∧ Keeps (fun j => j = m ∨ j = b12 ∨ j = l0 ∨ j = wr.heap.size + 1) W1 W') hbm hbo hbr hr4 (by omega) (fun W' hb => ?_)).mono ?_
            · have hp' := HP1.out.keeps (Keeps.of_below (S := fun _ => False) hb) (fun _ _ h => h) (fun h => h) (fun h => h) (fun h => h) (fun _ _ _ h => h) (fun h => h) (fun h => h)
              refine (HTell.out _ W' (0, 0, 0) (0, 0, 134217728, false, false, false, 42) rfl hb.size hp').mono ?_
              rintro e W'' ⟨rfl, h1, h2⟩
              exact ⟨rfl, h1 hn2, (Keeps.of_below hb).trans h2 (fun _ _ e => e)⟩
            · rintro e W' ⟨he, h1, h2⟩
              refine HEnd.out e W' _ he h1 hn2 h2 ?_ (.inl ?_)
              · rw [hnx]
                exact Nat.zero_le _
              · rw [hnx]
                exact hnw.symm
      case fin =>
        rintro V9 hD
        have HD := Lib.hid hD
        obtain ⟨i, hN9, hi9⟩ := hD.cnt
        have HN9 := Lib.hid hN9
        have HAz : Hid (m < wr.heap.size ∧ v < wr.heap.size ∧ wr.heap.size + 2 ≤ b8 ∧ c0 = b8 + 1 ∧ c0 + 3 ≤ b11 ∧ b11 < b12 ∧ W5.heap.size = b12 + 1 ∧ b12 = wq.heap.size) := ⟨HAr.out.1, HAr.out.2.1, HAr.out.2.2.1, HAr.out.2.2.2.1, HAq.out⟩
        have HR9 : Hid (IntAt V9 b11 (k2 : Int)) := (HI.out.rnd.below HB5.out).keeps HD.out.keeps (by have := HAz.out; omega)
        have HL9 : Hid (LsAt V9 b8 (.slice at_ NW ct_)) := (HI.out.row.keeps (Keeps.of_below (S := fun _ => False) HB5.out) (fun h => h)).keeps HD.out.keeps (by have := HAz.out; omega)
        have r9 := HR9.out.cell
        have l9 := HL9.out.cell
        have n9 := HN9.out.cell
        clear hD hN9
        have HE9 : Hid (∀ W6, V9.alloc (Obj.cells #[.int .i64 ((k2 : Int) + 1)] 3) = W6 → TlE m w0 base vr vd vp1 ps1 M rs ds L S n v vp ps X' wr (wr.heap.size + 1) b8 c0 (wr.heap.size + 2) rt z (.slice at_ NW ct_) WS (k2 + 1) V9.heap.size ({ target := .collected W5.heap.size, args := #[] } :: dl) W6) := fun W6 hW6 => by
          have haz := HAz.out
          have hb6 : Below V9.heap.size V9 W6 := hW6 ▸ (Below.refl _ _).alloc (Nat.le_refl _) _
          have hk9 := HD.out.keeps
          have hk6 := Keeps.of_below (S := fun _ => False) hb6
          have hk5 := Keeps.of_below (S := fun _ => False) HB5.out
          have hsz := hk9.size
          have hwq : wr.heap.size ≤ wq.heap.size := HI.out.keeps.size
          have hvb : ∀ j, Fo v vp ps j → ¬ (j = m ∨ j = b12 ∨ j = wr.heap.size + 1) := fun j hj e => by
            have := HFv.out j hj
            omega
          have hcell : ∀ g u, g < wq.heap.size → g ≠ m → g ≠ b12 → g ≠ wr.heap.size + 1 → wq.cell? ⟨g, 0, none⟩ = some u → W6.cell? ⟨g, 0, none⟩ = some u := fun g u hg h1 h2 h3 hc => (((hc |> fun hc => Keeps.cell' hk5 hc (fun h => h)) |> fun hc => Keeps.cell' hk9 hc (by omega)) |> fun hc => Keeps.cell' hk6 hc (fun h => h))
          refine ⟨HD.out.mac.below hb6, ((HI.out.ref.below HB5.out).keepsF hk9 hvb).below hb6, ?_, HD.out.res.below hb6, HL9.out.keeps hk6 (fun h => h), ((HI.out.want.keeps hk5 (fun _ _ _ h => h)).keeps hk9 (fun j h1 h2 e => by omega)).keeps hk6 (fun _ _ _ h => h), ?_, hcell _ _ (by omega) (by omega) (by omega) (by omega) HI.out.cm, hcell _ _ (by omega) (by omega) (by omega) (by omega) HI.out.co, hcell _ _ (by omega) (by omega) (by omega) (by omega) HI.out.cr, ⟨W5.heap.size, rfl, by omega, (hb6.block _ (Array.getElem?_eq_some_iff.1 HD.out.mark).1).trans HD.out.mark, fun e he he2 => ?_, ?_⟩, by omega⟩
          · exact ((HI.out.keeps.trans (Keeps.of_below (S := fun _ => False) HB5.out) (fun _ _ e => e.elim)).trans hk9 (fun j hj e => by omega)).trans hk6 (fun _ _ e => e.elim)
          · have := World.alloc_heap_new V9 (Obj.cells #[.int .i64 ((k2 : Int) + 1)] 3)
            rw [hW6] at this
            exact this
          · obtain ⟨D, hD1, hD2⟩ := HI.out.marks.of e he
            rw [hD2] at he2
            cases he2
            omega
          · refine ((HI.out.marks.keeps hk5 (fun _ _ _ h => h)).keeps hk9 (fun j o e ej => ?_)).keeps hk6 (fun _ _ _ h => h)
            rcases ej with rfl | rfl | rfl
            · obtain ⟨X9, _, ⟨_, hg0, _⟩, _⟩ := HI.out.mac.below HB5.out
              have hg : W5.heap[j]? = _ := hg0
              rw [hg] at e
              cases e
            · have hg : W5.heap[j]? = _ := HN5.out
              rw [hg] at e
              cases e
            · have hg : W5.heap[wr.heap.size + 1]? = _ := HI.out.res.below HB5.out
              rw [hg] at e
              cases e
        have HLq : Hid (leftOf (.pointer (some ⟨b11, 0, none⟩)) wq = 2 - k2) := leftOf_at HI.out.rnd
        clear HI HB5 HN5 HD
        have hwk : IntKind.i64.wrap ((k2 : Int) + 1) = (k2 : Int) + 1 := by rw [IntKind.wrap_i64]; omega
        rcases hi9 with hiA | ⟨hiB, hi1, hi2⟩
        · have q1 : ¬ (i : Int) < (NW : Int) := by omega
          have q2 : decide ((i : Int) < (NW : Int)) = false := decide_eq_false q1
          have q3 : decide (i < NW) = false := decide_eq_false (by omega)
          clear hiA
          go_wp2_with fail
          exact ⟨EnT.mk (k := k2 + 1) (by omega) (Lib.hid (HE9.out _ rfl)), by rw [leftOf_at (HE9.out _ rfl).rnd, HLq.out]; omega⟩
        · have q1 : (i : Int) < (NW : Int) := by omega
          have q2 : decide ((i : Int) < (NW : Int)) = true := decide_eq_true q1
          have q3 : decide (i < NW) = true := decide_eq_true hi2
          obtain ⟨H2, hH2⟩ : ∃ H2, H2 = NW / 2 := ⟨_, rfl⟩
          have hq2 : (NW : Int).tdiv 2 = (H2 : Int) := by rw [Int.tdiv_eq_ediv_of_nonneg (by omega), hH2]; omega
          have hHb : H2 ≤ 4611686018427387904 := by omega
          have q4 : ¬ (i : Int) ≤ (H2 : Int) := by omega
          have q5 : decide ((i : Int) ≤ (H2 : Int)) = false := decide_eq_false q4
          have q6 : decide (i ≤ H2) = false := decide_eq_false (by omega)
          clear hH2 hi1 hi2
          subst hiB
          go_wp2_with fail
          have e1 : leftOf (.pointer (some ⟨V9.heap.size, 0, none⟩)) (V9.alloc (Obj.cells #[.int .i64 1] 3)) = 2 - (0 + 1) := leftOf_at (HE9.out _ rfl).rnd
          exact ⟨EnT.mk (k := 0 + 1) (by omega) (Lib.hid (HE9.out _ rfl)), by rw [e1, HLq.out]; decide⟩
      case stop =>
        rintro c V9 ⟨rfl, hD⟩
        refine wpIn_wide.2 ?_
        have HD := Lib.hid hD
        obtain ⟨i, hN9, hi9⟩ := hD.cnt
        have HN9 := Lib.hid hN9
        have HAz : Hid (m < wr.heap.size ∧ v < wr.heap.size ∧ wr.heap.size + 2 ≤ b8 ∧ c0 = b8 + 1 ∧ c0 + 3 ≤ b11 ∧ b11 < b12 ∧ W5.heap.size = b12 + 1 ∧ b12 = wq.heap.size) := ⟨HAr.out.1, HAr.out.2.1, HAr.out.2.2.1, HAr.out.2.2.2.1, HAq.out⟩
        have HR9 : Hid (IntAt V9 b11 (k2 : Int)) := (HI.out.rnd.below HB5.out).keeps HD.out.keeps (by have := HAz.out; omega)
        have HL9 : Hid (LsAt V9 b8 (.slice at_ NW ct_)) := (HI.out.row.keeps (Keeps.of_below (S := fun _ => False) HB5.out) (fun h => h)).keeps HD.out.keeps (by have := HAz.out; omega)
        have r9 := HR9.out.cell
        have l9 := HL9.out.cell
        have n9 := HN9.out.cell
        clear hD hN9
        have HE9 : Hid (∀ W6, V9.alloc (Obj.cells #[.int .i64 ((k2 : Int) + 1)] 3) = W6 → TlE m w0 base vr vd vp1 ps1 M rs ds L S n v vp ps X' wr (wr.heap.size + 1) b8 c0 (wr.heap.size + 2) rt z (.slice at_ NW ct_) WS (k2 + 1) V9.heap.size ({ target := .collected W5.heap.size, args := #[] } :: dl) W6) := fun W6 hW6 => by
          have haz := HAz.out
          have hb6 : Below V9.heap.size V9 W6 := hW6 ▸ (Below.refl _ _).alloc (Nat.le_refl _) _
          have hk9 := HD.out.keeps
          have hk6 := Keeps.of_below (S := fun _ => False) hb6
          have hk5 := Keeps.of_below (S := fun _ => False) HB5.out
          have hsz := hk9.size
          have hwq : wr.heap.size ≤ wq.heap.size := HI.out.keeps.size
          have hvb : ∀ j, Fo v vp ps j → ¬ (j = m ∨ j = b12 ∨ j = wr.heap.size + 1) := fun j hj e => by
            have := HFv.out j hj
            omega
          have hcell : ∀ g u, g < wq.heap.size → g ≠ m → g ≠ b12 → g ≠ wr.heap.size + 1 → wq.cell? ⟨g, 0, none⟩ = some u → W6.cell? ⟨g, 0, none⟩ = some u := fun g u hg h1 h2 h3 hc => (((hc |> fun hc => Keeps.cell' hk5 hc (fun h => h)) |> fun hc => Keeps.cell' hk9 hc (by omega)) |> fun hc => Keeps.cell' hk6 hc (fun h => h))
          refine ⟨HD.out.mac.below hb6, ((HI.out.ref.below HB5.out).keepsF hk9 hvb).below hb6, ?_, HD.out.res.below hb6, HL9.out.keeps hk6 (fun h => h), ((HI.out.want.keeps hk5 (fun _ _ _ h => h)).keeps hk9 (fun j h1 h2 e => by omega)).keeps hk6 (fun _ _ _ h => h), ?_, hcell _ _ (by omega) (by omega) (by omega) (by omega) HI.out.cm, hcell _ _ (by omega) (by omega) (by omega) (by omega) HI.out.co, hcell _ _ (by omega) (by omega) (by omega) (by omega) HI.out.cr, ⟨W5.heap.size, rfl, by omega, (hb6.block _ (Array.getElem?_eq_some_iff.1 HD.out.mark).1).trans HD.out.mark, fun e he he2 => ?_, ?_⟩, by omega⟩
          · exact ((HI.out.keeps.trans (Keeps.of_below (S := fun _ => False) HB5.out) (fun _ _ e => e.elim)).trans hk9 (fun j hj e => by omega)).trans hk6 (fun _ _ e => e.elim)
          · have := World.alloc_heap_new V9 (Obj.cells #[.int .i64 ((k2 : Int) + 1)] 3)
            rw [hW6] at this
            exact this
          · obtain ⟨D, hD1, hD2⟩ := HI.out.marks.of e he
            rw [hD2] at he2
            cases he2
            omega
          · refine ((HI.out.marks.keeps hk5 (fun _ _ _ h => h)).keeps hk9 (fun j o e ej => ?_)).keeps hk6 (fun _ _ _ h => h)
            rcases ej with rfl | rfl | rfl
            · obtain ⟨X9, _, ⟨_, hg0, _⟩, _⟩ := HI.out.mac.below HB5.out
              have hg : W5.heap[j]? = _ := hg0
              rw [hg] at e
              cases e
            · have hg : W5.heap[j]? = _ := HN5.out
              rw [hg] at e
              cases e
            · have hg : W5.heap[wr.heap.size + 1]? = _ := HI.out.res.below HB5.out
              rw [hg] at e
              cases e
        have HLq : Hid (leftOf (.pointer (some ⟨b11, 0, none⟩)) wq = 2 - k2) := leftOf_at HI.out.rnd
        clear HI HB5 HN5 HD
        have hwk : IntKind.i64.wrap ((k2 : Int) + 1) = (k2 : Int) + 1 := by rw [IntKind.wrap_i64]; omega
        rcases hi9 with hiA | ⟨hiB, hi1, hi2⟩
        · have q1 : ¬ (i : Int) < (NW : Int) := by omega
          have q2 : decide ((i : Int) < (NW : Int)) = false := decide_eq_false q1
          have q3 : decide (i < NW) = false := decide_eq_false (by omega)
          clear hiA
          go_wp2_with fail
          exact ⟨EnT.mk (k := k2 + 1) (by omega) (Lib.hid (HE9.out _ rfl)), by rw [leftOf_at (HE9.out _ rfl).rnd, HLq.out]; omega⟩
        · have q1 : (i : Int) < (NW : Int) := by omega
          have q2 : decide ((i : Int) < (NW : Int)) = true := decide_eq_true q1
          have q3 : decide (i < NW) = true := decide_eq_true hi2
          obtain ⟨H2, hH2⟩ : ∃ H2, H2 = NW / 2 := ⟨_, rfl⟩
          have hq2 : (NW : Int).tdiv 2 = (H2 : Int) := by rw [Int.tdiv_eq_ediv_of_nonneg (by omega), hH2]; omega
          have hHb : H2 ≤ 4611686018427387904 := by omega
          have q4 : ¬ (i : Int) ≤ (H2 : Int) := by omega
          have q5 : decide ((i : Int) ≤ (H2 : Int)) = false := decide_eq_false q4
          have q6 : decide (i ≤ H2) = false := decide_eq_false (by omega)
          clear hH2 hi1 hi2
          subst hiB
          go_wp2_with fail
          have e1 : leftOf (.pointer (some ⟨V9.heap.size, 0, none⟩)) (V9.alloc (Obj.cells #[.int .i64 1] 3)) = 2 - (0 + 1) := leftOf_at (HE9.out _ rfl).rnd
          exact ⟨EnT.mk (k := 0 + 1) (by omega) (Lib.hid (HE9.out _ rfl)), by rw [e1, HLq.out]; decide⟩
    · obtain rfl : k2 = 2 := by omega
      obtain ⟨q0, q1⟩ := HI.out.res.cell
      have HFin : Hid (∀ (tm : Array Value), tm.getD 6 undef = .pointer (some ⟨wr.heap.size + 1, 0, none⟩) → LeavesInM Fence.wide 20 Tryz.prog Tryz.f26 tm (fun e w' => e = .returned (.bool true) ∧ Hid (GMt w0 w' base m v vr vd rs ds (M, L, S, NS) (M, L, S, NS) (n + 4000) k)) dl .returning (wq.setCell ⟨wr.heap.size + 1, 0, none⟩ (.bool true))) := fun tm ht => by
        have har := HAr.out
        obtain ⟨W6, hW6⟩ : ∃ W6, wq.setCell ⟨wr.heap.size + 1, 0, none⟩ (.bool true) = W6 := ⟨_, rfl⟩
        have hk6 : Keeps (fun j => j = wr.heap.size + 1) wq W6 := hW6 ▸ Keeps.setCell wq (wr.heap.size + 1) 0 (.bool true)
        have hr6 : BoxR W6 (wr.heap.size + 1) true := hW6 ▸ HI.out.res.set true
        have hbr : wq.heap[wr.heap.size + 1]? = _ := HI.out.res
        rw [hW6]
        have hnv : ∀ j, VB base wq j → ¬ j = wr.heap.size + 1 := by
          rintro j ⟨_, c, t, fr, hc, ht⟩ rfl
          rw [hbr] at hc
          cases hc
          rcases ht with ht | ht | ht <;> cases ht
        have hm6 := HI.out.mac.keeps hk6 (fun j hj e => by have := HMl.out j hj; have e : j = wr.heap.size + 1 := e; omega)
        have hf6 := HI.out.ref.keeps hk6 hnv
        have hw6 : Keeps (fun j => j = m ∨ j = v) wr W6 := HI.out.keeps.trans hk6 (fun j hj e => by omega)
        have hmk : Marks (c0 + 3) dl W6 := HI.out.marks.keeps hk6 (fun j o e ej => by
          have ej : j = wr.heap.size + 1 := ej
          rw [ej, hbr] at e
          cases e)
        refine leaves_marks2 dl W6 hmk (fun W' hk => ?_)
        have hr' : BoxR W' (wr.heap.size + 1) true := hr6.keeps hk (fun ⟨_, o, e⟩ => by
          have hg : W6.heap[wr.heap.size + 1]? = _ := hr6
          rw [hg] at e
          cases e)
        have hm' : Ty W' m w0 base vr vd vp1 ps1 M rs ds L S (n + 2000 * 2) := by
          obtain ⟨X9, hX9, hmac⟩ := hm6
          exact ⟨X9, hX9, hmac.keeps hk (fun j hj ⟨e, _⟩ => by have := HMl.out j hj; omega)⟩
        have hw' : Keeps (fun j => j = m ∨ j = v) wr W' := hw6.trans hk (fun j hj ⟨e, _⟩ => by omega)
        have hc' := hr'.cell.1
        refine ⟨.bool true, ?_, rfl, HPk.out W' hw' hm' (hf6.keeps hk (fun j ⟨_, c, t, fr, hc, _⟩ ⟨_, o, e⟩ => by rw [hc] at e; cases e))⟩
        have ht2 : tm[6]?.getD undef = .pointer (some ⟨wr.heap.size + 1, 0, none⟩) := by rw [← ht]; simp
        simp [results, Tryz.results26, go_sem, ht2, hc']
      clear HI
      go_wp2_with fail
      exact HFin.out _ rfl
end Go.Proofs.YtdkhhofgfbnmkaaGreat
