import Derived.Test.YtfnikcjcgneboaaGreatPk16
/- New's refusals. Own work (parts/gen_rgnew.py off BNew). -/
namespace Go.Proofs.YtfnikcjcgneboaaGreat
open Go.RowKit Go.Maps Go.Proofs.YtfnikcjcgneboaaGreat.Sp
set_option maxRecDepth 100000 in
set_option maxHeartbeats 2000000 in
theorem new_many {w : World} {vr vd : Value} {rs ds : List Sp} (hr : U64.SV w vr rs) (hd : U64.SV w vd ds) (hl : 8 < rs.length ∨ 32 < ds.length) :
    Calls Tryz.prog 21 #[.agg #[vr, vd]] w fun e w' => e = .returned (.tuple #[.pointer none, .int .i64 4]) ∧ Below w.heap.size w w' := by
  obtain ⟨ar, cr, rfl, hcr, hmr, _, _, _⟩ := hr
  obtain ⟨ad, cd, rfl, hcd, hmd, _, _, _⟩ := hd
  unfold maxLen at hmr hmd
  by_cases h1 : 8 < rs.length
  · have e1 : decide (8 < (rs.length : Int)) = true := decide_eq_true (by omega)
    clear hl
    go_enter Tryz.func21, Tryz.ntmps21
    go_wp2_with fail
    go_ret2
    exact ⟨rfl, (Below.refl _ _).alloc (Nat.le_refl _) _⟩
  · have h2 : 32 < ds.length := by omega
    have e1 : decide (8 < (rs.length : Int)) = false := decide_eq_false (by omega)
    have e2 : decide (32 < (ds.length : Int)) = true := decide_eq_true (by omega)
    clear hl
    go_enter Tryz.func21, Tryz.ntmps21
    go_wp2_with fail
    go_ret2
    exact ⟨rfl, (Below.refl _ _).alloc (Nat.le_refl _) _⟩
set_option maxRecDepth 100000 in
set_option maxHeartbeats 8000000 in
theorem new_bad1 {w : World} {vr vd : Value} {rs ds : List Sp} (hr : U64.SV w vr rs) (hd : U64.SV w vd ds) (hl : rs.length ≤ 8) (hl2 : ds.length ≤ 32) (fr : Fits 18446744073709551615 rs) (s1 : stakeW 18446744073709551615 [] rs ≠ 0) :
    Calls Tryz.prog 21 #[.agg #[vr, vd]] w fun e w' => e = .returned (.tuple #[.pointer none, .int .i64 (stakeW 18446744073709551615 [] rs)]) ∧ Below w.heap.size w w' := by
  have HR : Hid (U64.SV w vr rs) := hr
  have HD : Hid (U64.SV w vd ds) := hd
  obtain ⟨ar, cr, rfl, hcr, hmr, _, _, _⟩ := hr
  obtain ⟨ad, cd, rfl, hcd, hmd, _, _, _⟩ := hd
  have HOf : Hid (∀ W, Calls Tryz.prog 48 #[.slice none 0 0] W fun e w' => ∃ a n c, e = .returned (.agg #[.slice a n c]) ∧ Hid (Below W.heap.size W w') ∧ Hid (U64.SV w' (.slice a n c) [] ∧ ∀ j, (Value.slice a n c).ownBlock = some j → W.heap.size ≤ j)) := fun W => by
    refine (U64.of_any (U64.SV.nil W) (fun y hy => by cases hy) (by simp)).mono ?_
    rintro e w' ⟨v', ts, rfl, ho, ht, hb⟩
    obtain ⟨a, c, e, _⟩ := ho.sv
    have h0 : ts = [] := List.eq_nil_of_length_eq_zero (Nat.le_zero.1 ht.2.2)
    subst h0
    subst e
    exact ⟨a, _, c, rfl, hb, ho.sv, fun j e => (World.ownsRow.lt ho j e).1⟩
  have HSt1 : Hid (∀ W a0 n0 c0, Below w.heap.size w W → U64.SV W (.slice a0 n0 c0) [] → Calls Tryz.prog 47 #[.agg #[.slice a0 n0 c0], .slice ar rs.length cr, .int .u64 18446744073709551615] W fun e w' => ∃ a n c, e = .returned (.tuple #[.agg #[.slice a n c], .int .i64 (stakeW 18446744073709551615 [] rs)]) ∧ Hid (Below W.heap.size W w')) := fun W a n c hW hS => by
    refine (stake_any hS ground_nil (by simp; omega) (HR.out.below hW (Nat.le_refl _)) fr (by omega)).mono ?_
    rintro e w' ⟨hb, a, n, c, rfl, h⟩
    exact ⟨a, n, c, rfl, hb⟩
  generalize stakeW 18446744073709551615 [] rs = y1 at *
  have e1 : decide (8 < (rs.length : Int)) = false := decide_eq_false (by omega)
  have e2 : decide (32 < (ds.length : Int)) = false := decide_eq_false (by omega)
  unfold maxLen at hmr hmd
  clear fr
  go_enter Tryz.func21, Tryz.ntmps21
  go_wp2_with fail
  rename_i K hK
  obtain ⟨W1, hW1⟩ : ∃ W1, w.alloc (Obj.cells #[.slice ar rs.length cr, .slice ad ds.length cd] 24) = W1 := ⟨_, rfl⟩
  have HB1 : Hid (Below w.heap.size w W1) := hW1 ▸ (Below.refl _ _).alloc (Nat.le_refl _) _
  have HX1 : Hid (BoxB W1 w.heap.size (.slice ar rs.length cr) (.slice ad ds.length cd)) := hW1 ▸ heap_alloc_new w _
  rw [hW1]
  clear hW1
  obtain ⟨x0, x1, _, _⟩ := HX1.out.cells
  have key : ∀ (p : Nat) (a : Option Addr) (n c : Nat) (a4 : Option Addr) (n4 c4 : Nat) (W : World), Below w.heap.size w W → K { tmps := #[.agg #[.slice ar rs.length cr, .slice ad ds.length cd], .pointer (some ⟨w.heap.size, 0, none⟩), .pointer none, .int .i64 0, .pointer (some ⟨p, 0, none⟩), .int .i64 y1, undef, undef, undef, .pointer (some ⟨w.heap.size, 0, none⟩), .slice ar rs.length cr, .int .i64 (rs.length : Int), .bool false, .bool false, .pointer (some ⟨w.heap.size, 1, none⟩), .slice ad ds.length cd, .int .i64 (ds.length : Int), .bool false, .bool false, .tuple #[.agg #[.slice a4 n4 c4], .int .i64 y1], .agg #[.slice a n c], .pointer (some ⟨w.heap.size, 0, none⟩), .slice ar rs.length cr, .tuple #[.agg #[.slice a4 n4 c4], .int .i64 y1], .agg #[.slice a4 n4 c4], .int .i64 y1, undef, undef, undef, undef, undef, undef, undef, undef, undef, undef, undef, undef, undef, undef, undef, undef, undef, undef, undef, undef, undef, undef, undef, undef, undef, undef], defers := [] } W := by
    intro p a n c a4 n4 c4 W hSt
    refine hK _ _ ?_
    clear hK
    go_wp2_with fail
    go_ret2
    exact ⟨rfl, hSt⟩
  have HKey : Hid (∀ (p : Nat) (a : Option Addr) (n c : Nat) (a4 : Option Addr) (n4 c4 : Nat) (W : World), Below w.heap.size w W → K { tmps := #[.agg #[.slice ar rs.length cr, .slice ad ds.length cd], .pointer (some ⟨w.heap.size, 0, none⟩), .pointer none, .int .i64 0, .pointer (some ⟨p, 0, none⟩), .int .i64 y1, undef, undef, undef, .pointer (some ⟨w.heap.size, 0, none⟩), .slice ar rs.length cr, .int .i64 (rs.length : Int), .bool false, .bool false, .pointer (some ⟨w.heap.size, 1, none⟩), .slice ad ds.length cd, .int .i64 (ds.length : Int), .bool false, .bool false, .tuple #[.agg #[.slice a4 n4 c4], .int .i64 y1], .agg #[.slice a n c], .pointer (some ⟨w.heap.size, 0, none⟩), .slice ar rs.length cr, .tuple #[.agg #[.slice a4 n4 c4], .int .i64 y1], .agg #[.slice a4 n4 c4], .int .i64 y1, undef, undef, undef, undef, undef, undef, undef, undef, undef, undef, undef, undef, undef, undef, undef, undef, undef, undef, undef, undef, undef, undef, undef, undef, undef, undef], defers := [] } W) := key
  clear key
  have HC1 : Hid (∀ W, Below W1.heap.size W1 W → Calls Tryz.prog 48 #[.slice none 0 0] W fun e w' => ∃ a n c, e = .returned (.agg #[.slice a n c]) ∧ (w'.cell? ⟨w.heap.size, 0, none⟩ = some (.slice ar rs.length cr) ∧ w'.cell? ⟨w.heap.size, 1, none⟩ = some (.slice ad ds.length cd)) ∧ Hid (Below W1.heap.size W1 w') ∧ Hid (U64.SV w' (.slice a n c) [] ∧ ∀ j, (Value.slice a n c).ownBlock = some j → W.heap.size ≤ j) ∧ Hid (Below W.heap.size W w')) := fun W hW => by
    refine (HOf.out _).mono ?_
    rintro e w' ⟨a, n, c, rfl, hb, h⟩
    have hb' : Below W1.heap.size W1 w' := hW.trans (hb.out.mono hW.size)
    obtain ⟨y0, y1, _⟩ := (HX1.out.below hb').cells
    exact ⟨a, n, c, rfl, ⟨y0, y1⟩, hb', h, hb⟩
  have HC2 : Hid (∀ W a0 n0 c0, Below W1.heap.size W1 W → U64.SV W (.slice a0 n0 c0) [] → Calls Tryz.prog 47 #[.agg #[.slice a0 n0 c0], .slice ar rs.length cr, .int .u64 18446744073709551615] W fun e w' => ∃ a n c, e = .returned (.tuple #[.agg #[.slice a n c], .int .i64 y1]) ∧ (w'.cell? ⟨w.heap.size, 0, none⟩ = some (.slice ar rs.length cr) ∧ w'.cell? ⟨w.heap.size, 1, none⟩ = some (.slice ad ds.length cd)) ∧ Hid (Below W1.heap.size W1 w') ∧ Hid (Below W.heap.size W w')) := fun w3 a n c hb3 h3 => by
    refine (HSt1.out w3 a n c (HB1.out.trans (hb3.mono HB1.out.size)) h3).mono ?_
    rintro e w' ⟨a, n, c, rfl, hb⟩
    have hb' : Below W1.heap.size W1 w' := hb3.trans (hb.out.mono hb3.size)
    obtain ⟨y0, y1, _⟩ := (HX1.out.below hb').cells
    exact ⟨a, n, c, rfl, ⟨y0, y1⟩, hb', hb⟩
  have HBd : Hid (Below W1.heap.size W1 W1.drew) := (Below.refl _ _).drew
  go_region_held3 (fun w' => w'.cell? ⟨w.heap.size, 0, none⟩ = some (.slice ar rs.length cr) ∧ w'.cell? ⟨w.heap.size, 1, none⟩ = some (.slice ad ds.length cd)) (first | exact ⟨(U64.set_other (by have := HX1.out.lt; have := HB3.out.size; omega)).trans (by assumption), (U64.set_other (by have := HX1.out.lt; have := HB3.out.size; omega)).trans (by assumption)⟩ | go_keep) (first | (go_at_call 48; first | (refine (HC1.out _ HBd.out).mono ?_; rintro e w3 ⟨a, n, c, rfl, ⟨d0, d1⟩, HB3, HS3, HL3⟩) | (refine (HC1.out _ (HBd.out.alloc HBd.out.size _)).mono ?_; rintro e w3 ⟨a, n, c, rfl, ⟨d0, d1⟩, HB3, HS3, HL3⟩; have HBx : Hid (Box1 w3 W1.heap.size (.slice none 0 0)) := box_after (W := W1.drew) HL3.out)) | (go_at_call 47; first | (refine (HC2.out _ _ _ _ HB3.out HS3.out.1).mono ?_; rintro e w4 ⟨a4, n4, c4, rfl, ⟨f0, f1⟩, HB4, HL4⟩; try (have hBy := HBx.out.below HL4.out; have k0 := hBy.cell; have k1 := hBy.thawed; clear hBy)) | (refine (HC2.out _ _ _ _ (HB3.out.alloc HB3.out.size _) (HS3.out.1.alloc _)).mono ?_; rintro e w4 ⟨a4, n4, c4, rfl, ⟨f0, f1⟩, HB4, HL4⟩; have HBy : Hid (Box1 w4 w3.heap.size (.slice none 0 0)) := box_after HL4.out; have k0 := HBy.out.cell; have k1 := HBy.out.thawed)))
  · exact HKey.out _ _ _ _ _ _ _ _ ((HB1.out.trans (HB4.out.mono HB1.out.size)).alloc (by have := HB1.out.size; have := HB4.out.size; omega) _)
  · have hlt := HX1.out.lt
    have h3 := HB3.out.size
    exact HKey.out _ _ _ _ _ _ _ _ ((HB1.out.trans (HB4.out.mono HB1.out.size)).setCell (p := ⟨w3.heap.size, 0, none⟩) (show w.heap.size ≤ w3.heap.size by omega) _)
  · have hlt := HX1.out.lt
    exact HKey.out _ _ _ _ _ _ _ _ ((HB1.out.trans (HB4.out.mono HB1.out.size)).setCell (p := ⟨W1.heap.size, 0, none⟩) (show w.heap.size ≤ W1.heap.size by omega) _)
set_option maxRecDepth 100000 in
set_option maxHeartbeats 8000000 in
theorem new_bad2 {w : World} {vr vd : Value} {rs ds : List Sp} (hr : U64.SV w vr rs) (hd : U64.SV w vd ds) (hl : rs.length ≤ 8) (hl2 : ds.length ≤ 32) (fr : Fits 18446744073709551615 rs) (fd : Fits 18446744073709551615 ds) (s1 : stakeW 18446744073709551615 [] rs = 0) (s2 : stakeW 1048576 rs ds ≠ 0) :
    Calls Tryz.prog 21 #[.agg #[vr, vd]] w fun e w' => e = .returned (.tuple #[.pointer none, .int .i64 (stakeW 1048576 rs ds)]) ∧ Below w.heap.size w w' := by
  have HR : Hid (U64.SV w vr rs) := hr
  have HD : Hid (U64.SV w vd ds) := hd
  obtain ⟨ar, cr, rfl, hcr, hmr, _, _, _⟩ := hr
  obtain ⟨ad, cd, rfl, hcd, hmd, _, _, _⟩ := hd
  have HS1 : Hid (stakeW 18446744073709551615 [] rs = 0) := s1
  have HOf : Hid (∀ W, Calls Tryz.prog 48 #[.slice none 0 0] W fun e w' => ∃ a n c, e = .returned (.agg #[.slice a n c]) ∧ Hid (Below W.heap.size W w') ∧ Hid (U64.SV w' (.slice a n c) [] ∧ ∀ j, (Value.slice a n c).ownBlock = some j → W.heap.size ≤ j)) := fun W => by
    refine (U64.of_any (U64.SV.nil W) (fun y hy => by cases hy) (by simp)).mono ?_
    rintro e w' ⟨v', ts, rfl, ho, ht, hb⟩
    obtain ⟨a, c, e, _⟩ := ho.sv
    have h0 : ts = [] := List.eq_nil_of_length_eq_zero (Nat.le_zero.1 ht.2.2)
    subst h0
    subst e
    exact ⟨a, _, c, rfl, hb, ho.sv, fun j e => (World.ownsRow.lt ho j e).1⟩
  have HSt1 : Hid (∀ W a0 n0 c0, Below w.heap.size w W → U64.SV W (.slice a0 n0 c0) [] → Calls Tryz.prog 47 #[.agg #[.slice a0 n0 c0], .slice ar rs.length cr, .int .u64 18446744073709551615] W fun e w' => ∃ a n c, e = .returned (.tuple #[.agg #[.slice a n c], .int .i64 0]) ∧ Hid (Below W.heap.size W w') ∧ Hid ((∃ G, U64.SV w' (.slice a n c) G ∧ Ground G rs) ∧ ∀ j, (Value.slice a n c).ownBlock = some j → ((Value.slice a0 n0 c0).ownBlock = some j ∧ j < W.heap.size) ∨ W.heap.size ≤ j)) := fun W a n c hW hS => by
    refine (stake_any hS ground_nil (by simp; omega) (HR.out.below hW (Nat.le_refl _)) fr (by omega)).mono ?_
    rintro e w' ⟨hb, a, n, c, rfl, h⟩
    obtain ⟨⟨G', h1, h2⟩, h3⟩ := h s1
    exact ⟨a, n, c, by rw [s1], hb, ⟨G', h1, by rw [List.nil_append] at h2; exact h2⟩, h3⟩
  have HSt2 : Hid (∀ W a0 n0 c0, Below w.heap.size w W → (∃ G, U64.SV W (.slice a0 n0 c0) G ∧ Ground G rs) → Calls Tryz.prog 47 #[.agg #[.slice a0 n0 c0], .slice ad ds.length cd, .int .u64 1048576] W fun e w' => ∃ a n c, e = .returned (.tuple #[.agg #[.slice a n c], .int .i64 (stakeW 1048576 rs ds)]) ∧ Hid (Below W.heap.size W w')) := fun W a n c hW ⟨G, hS, hG⟩ => by
    refine (stake_any hS hG (by omega) (HD.out.below hW (Nat.le_refl _)) fd (by omega)).mono ?_
    rintro e w' ⟨hb, a, n, c, rfl, h⟩
    exact ⟨a, n, c, rfl, hb⟩
  generalize stakeW 1048576 rs ds = y2 at *
  have e1 : decide (8 < (rs.length : Int)) = false := decide_eq_false (by omega)
  have e2 : decide (32 < (ds.length : Int)) = false := decide_eq_false (by omega)
  unfold maxLen at hmr hmd
  clear fr fd s1
  go_enter Tryz.func21, Tryz.ntmps21
  go_wp2_with fail
  rename_i K hK
  obtain ⟨W1, hW1⟩ : ∃ W1, w.alloc (Obj.cells #[.slice ar rs.length cr, .slice ad ds.length cd] 24) = W1 := ⟨_, rfl⟩
  have HB1 : Hid (Below w.heap.size w W1) := hW1 ▸ (Below.refl _ _).alloc (Nat.le_refl _) _
  have HX1 : Hid (BoxB W1 w.heap.size (.slice ar rs.length cr) (.slice ad ds.length cd)) := hW1 ▸ heap_alloc_new w _
  rw [hW1]
  clear hW1
  obtain ⟨x0, x1, _, _⟩ := HX1.out.cells
  have key : ∀ (p : Nat) (a : Option Addr) (n c : Nat) (a4 : Option Addr) (n4 c4 : Nat) (W : World), St1 w W (.slice ar rs.length cr) (.slice ad ds.length cd) p (.slice a4 n4 c4) rs → K { tmps := #[.agg #[.slice ar rs.length cr, .slice ad ds.length cd], .pointer (some ⟨w.heap.size, 0, none⟩), .pointer none, .int .i64 0, .pointer (some ⟨p, 0, none⟩), .int .i64 0, undef, undef, undef, .pointer (some ⟨w.heap.size, 0, none⟩), .slice ar rs.length cr, .int .i64 (rs.length : Int), .bool false, .bool false, .pointer (some ⟨w.heap.size, 1, none⟩), .slice ad ds.length cd, .int .i64 (ds.length : Int), .bool false, .bool false, .tuple #[.agg #[.slice a4 n4 c4], .int .i64 0], .agg #[.slice a n c], .pointer (some ⟨w.heap.size, 0, none⟩), .slice ar rs.length cr, .tuple #[.agg #[.slice a4 n4 c4], .int .i64 0], .agg #[.slice a4 n4 c4], .int .i64 0, undef, undef, undef, undef, undef, undef, undef, undef, undef, undef, undef, undef, undef, undef, undef, undef, undef, undef, undef, undef, undef, undef, undef, undef, undef, undef], defers := [] } W := by
    intro p a n c a4 n4 c4 W hSt
    refine hK _ _ ?_
    have HSt : Hid (St1 w W (.slice ar rs.length cr) (.slice ad ds.length cd) p (.slice a4 n4 c4) rs) := hSt
    obtain ⟨hB, hX, hP, hlt, hnew, hG⟩ := hSt
    have HNew : Hid (∀ j, (Value.slice a4 n4 c4).ownBlock = some j → w.heap.size ≤ j) := hnew
    obtain ⟨x0, x1, _, _⟩ := hX.cells
    have y0 := hP.cell
    have HB : Hid (Below w.heap.size w W) := hB
    have HX : Hid (BoxB W w.heap.size (.slice ar rs.length cr) (.slice ad ds.length cd)) := hX
    have HP : Hid (Box1 W p (.slice a4 n4 c4)) := hP
    have HG : Hid (∃ G, U64.SV W (.slice a4 n4 c4) G ∧ Ground G rs) := hG
    have z0 := fun X => U64.cell_alloc' X y0
    have z1 := fun X => U64.cell_alloc' X x0
    have z2 := fun X => U64.cell_alloc' X x1
    clear HSt hB hX hP hG hK hnew
    go_wp2_with fail
    refine (HSt2.out W _ _ _ HB.out HG.out).mono ?_
    rintro e w5 ⟨a5, n5, c5, rfl, HB5⟩
    have HX5 : Hid (BoxB w5 w.heap.size (.slice ar rs.length cr) (.slice ad ds.length cd)) := HX.out.below HB5.out
    have HP5 : Hid (Box1 w5 p (.slice a4 n4 c4)) := HP.out.below HB5.out
    obtain ⟨x0, x1, _, _⟩ := HX5.out.cells
    have y0 := HP5.out.cell
    have z0 := fun X => U64.cell_alloc' X y0
    have z1 := fun X => U64.cell_alloc' X x0
    have z2 := fun X => U64.cell_alloc' X x1
    go_wp2_with fail
    go_ret2
    exact ⟨rfl, (HB.out.trans (HB5.out.mono HB.out.size)).alloc (by have := HB.out.size; have := HB5.out.size; omega) _⟩
  have HKey : Hid (∀ (p : Nat) (a : Option Addr) (n c : Nat) (a4 : Option Addr) (n4 c4 : Nat) (W : World), St1 w W (.slice ar rs.length cr) (.slice ad ds.length cd) p (.slice a4 n4 c4) rs → K { tmps := #[.agg #[.slice ar rs.length cr, .slice ad ds.length cd], .pointer (some ⟨w.heap.size, 0, none⟩), .pointer none, .int .i64 0, .pointer (some ⟨p, 0, none⟩), .int .i64 0, undef, undef, undef, .pointer (some ⟨w.heap.size, 0, none⟩), .slice ar rs.length cr, .int .i64 (rs.length : Int), .bool false, .bool false, .pointer (some ⟨w.heap.size, 1, none⟩), .slice ad ds.length cd, .int .i64 (ds.length : Int), .bool false, .bool false, .tuple #[.agg #[.slice a4 n4 c4], .int .i64 0], .agg #[.slice a n c], .pointer (some ⟨w.heap.size, 0, none⟩), .slice ar rs.length cr, .tuple #[.agg #[.slice a4 n4 c4], .int .i64 0], .agg #[.slice a4 n4 c4], .int .i64 0, undef, undef, undef, undef, undef, undef, undef, undef, undef, undef, undef, undef, undef, undef, undef, undef, undef, undef, undef, undef, undef, undef, undef, undef, undef, undef], defers := [] } W) := key
  clear key
  have HC1 : Hid (∀ W, Below W1.heap.size W1 W → Calls Tryz.prog 48 #[.slice none 0 0] W fun e w' => ∃ a n c, e = .returned (.agg #[.slice a n c]) ∧ (w'.cell? ⟨w.heap.size, 0, none⟩ = some (.slice ar rs.length cr) ∧ w'.cell? ⟨w.heap.size, 1, none⟩ = some (.slice ad ds.length cd)) ∧ Hid (Below W1.heap.size W1 w') ∧ Hid (U64.SV w' (.slice a n c) [] ∧ ∀ j, (Value.slice a n c).ownBlock = some j → W.heap.size ≤ j) ∧ Hid (Below W.heap.size W w')) := fun W hW => by
    refine (HOf.out _).mono ?_
    rintro e w' ⟨a, n, c, rfl, hb, h⟩
    have hb' : Below W1.heap.size W1 w' := hW.trans (hb.out.mono hW.size)
    obtain ⟨y0, y1, _⟩ := (HX1.out.below hb').cells
    exact ⟨a, n, c, rfl, ⟨y0, y1⟩, hb', h, hb⟩
  have HC2 : Hid (∀ W a0 n0 c0, Below W1.heap.size W1 W → U64.SV W (.slice a0 n0 c0) [] → Calls Tryz.prog 47 #[.agg #[.slice a0 n0 c0], .slice ar rs.length cr, .int .u64 18446744073709551615] W fun e w' => ∃ a n c, e = .returned (.tuple #[.agg #[.slice a n c], .int .i64 0]) ∧ (w'.cell? ⟨w.heap.size, 0, none⟩ = some (.slice ar rs.length cr) ∧ w'.cell? ⟨w.heap.size, 1, none⟩ = some (.slice ad ds.length cd)) ∧ Hid (Below W1.heap.size W1 w') ∧ Hid ((∃ G, U64.SV w' (.slice a n c) G ∧ Ground G rs) ∧ ∀ j, (Value.slice a n c).ownBlock = some j → ((Value.slice a0 n0 c0).ownBlock = some j ∧ j < W.heap.size) ∨ W.heap.size ≤ j) ∧ Hid (Below W.heap.size W w')) := fun w3 a n c hb3 h3 => by
    refine (HSt1.out w3 a n c (HB1.out.trans (hb3.mono HB1.out.size)) h3).mono ?_
    rintro e w' ⟨a, n, c, rfl, hb, h⟩
    have hb' : Below W1.heap.size W1 w' := hb3.trans (hb.out.mono hb3.size)
    obtain ⟨y0, y1, _⟩ := (HX1.out.below hb').cells
    exact ⟨a, n, c, rfl, ⟨y0, y1⟩, hb', h, hb⟩
  have HBd : Hid (Below W1.heap.size W1 W1.drew) := (Below.refl _ _).drew
  go_region_held3 (fun w' => w'.cell? ⟨w.heap.size, 0, none⟩ = some (.slice ar rs.length cr) ∧ w'.cell? ⟨w.heap.size, 1, none⟩ = some (.slice ad ds.length cd)) (first | exact ⟨(U64.set_other (by have := HX1.out.lt; have := HB3.out.size; omega)).trans (by assumption), (U64.set_other (by have := HX1.out.lt; have := HB3.out.size; omega)).trans (by assumption)⟩ | go_keep) (first | (go_at_call 48; first | (refine (HC1.out _ HBd.out).mono ?_; rintro e w3 ⟨a, n, c, rfl, ⟨d0, d1⟩, HB3, HS3, HL3⟩) | (refine (HC1.out _ (HBd.out.alloc HBd.out.size _)).mono ?_; rintro e w3 ⟨a, n, c, rfl, ⟨d0, d1⟩, HB3, HS3, HL3⟩; have HBx : Hid (Box1 w3 W1.heap.size (.slice none 0 0)) := box_after (W := W1.drew) HL3.out)) | (go_at_call 47; first | (refine (HC2.out _ _ _ _ HB3.out HS3.out.1).mono ?_; rintro e w4 ⟨a4, n4, c4, rfl, ⟨f0, f1⟩, HB4, HS4, HL4⟩; try (have hBy := HBx.out.below HL4.out; have k0 := hBy.cell; have k1 := hBy.thawed; clear hBy)) | (refine (HC2.out _ _ _ _ (HB3.out.alloc HB3.out.size _) (HS3.out.1.alloc _)).mono ?_; rintro e w4 ⟨a4, n4, c4, rfl, ⟨f0, f1⟩, HB4, HS4, HL4⟩; have HBy : Hid (Box1 w4 w3.heap.size (.slice none 0 0)) := box_after HL4.out; have k0 := HBy.out.cell; have k1 := HBy.out.thawed)))
  · exact HKey.out _ _ _ _ _ _ _ _ ⟨(HB1.out.trans (HB4.out.mono HB1.out.size)).alloc (by have := HB1.out.size; have := HB4.out.size; omega) _, HX1.out.below (HB4.out.alloc HB4.out.size _), heap_alloc_new w4 _, by have := HX1.out.lt; have := HB4.out.size; omega, fun j e => by
      have h0 := HX1.out.lt
      have h1 := HB3.out.size
      rcases HS4.out.2 j e with ⟨h5, h6⟩ | h5
      · have := HS3.out.2 j h5; simp at this; omega
      · omega, HS4.out.1.imp fun G h => ⟨h.1.alloc _, h.2⟩⟩
  · have hlt := HX1.out.lt
    have h3 := HB3.out.size
    refine HKey.out _ _ _ _ _ _ _ _ ⟨(HB1.out.trans (HB4.out.mono HB1.out.size)).setCell (p := ⟨w3.heap.size, 0, none⟩) (show w.heap.size ≤ w3.heap.size by omega) _, (HX1.out.below HB4.out).keeps (Keeps.setCell _ _ _ _) (by omega), HBy.out.set _, by omega, fun j e => by
      rcases HS4.out.2 j e with ⟨h5, h6⟩ | h5
      · have := HS3.out.2 j h5; simp at this; omega
      · simp at h5; omega, HS4.out.1.imp fun G h => ⟨h.1.keeps (Keeps.setCell _ _ _ _) (fun j e e' => ?_), h.2⟩⟩
    rcases HS4.out.2 j e with ⟨h5, h6⟩ | h5
    · have := sv_lt HS3.out.1 j h5; omega
    · simp at h5; omega
  · have hlt := HX1.out.lt
    have h3 := HB3.out.size
    have h4 := HL3.out.size
    refine HKey.out _ _ _ _ _ _ _ _ ⟨(HB1.out.trans (HB4.out.mono HB1.out.size)).setCell (p := ⟨W1.heap.size, 0, none⟩) (show w.heap.size ≤ W1.heap.size by omega) _, (HX1.out.below HB4.out).keeps (Keeps.setCell _ _ _ _) (by omega), (HBx.out.below HL4.out).set _, by omega, fun j e => by
      rcases HS4.out.2 j e with ⟨h5, h6⟩ | h5
      · have := HS3.out.2 j h5; simp at this; omega
      · omega, HS4.out.1.imp fun G h => ⟨h.1.keeps (Keeps.setCell _ _ _ _) (fun j e e' => ?_), h.2⟩⟩
    have h7 := HBx.out.lt
    rcases HS4.out.2 j e with ⟨h5, h6⟩ | h5
    · have := HS3.out.2 j h5; simp at this; omega
    · omega
set_option maxRecDepth 100000 in
set_option maxHeartbeats 8000000 in
theorem new_big {w : World} {vr vd : Value} {rs ds : List Sp} (hr : U64.SV w vr rs) (hd : U64.SV w vd ds) (hl : rs.length ≤ 8) (hl2 : ds.length ≤ 32) (fr : Fits 18446744073709551615 rs) (fd : Fits 18446744073709551615 ds) (s1 : stakeW 18446744073709551615 [] rs = 0) (s2 : stakeW 1048576 rs ds = 0) (hs : ∀ G, Ground G rs → 67108864 < tot G ∧ tot G ≤ 4294967296) :
    Calls Tryz.prog 21 #[.agg #[vr, vd]] w fun e w' => e = .returned (.tuple #[.pointer none, .int .i64 36]) ∧ Below w.heap.size w w' := by
  have HR : Hid (U64.SV w vr rs) := hr
  have HD : Hid (U64.SV w vd ds) := hd
  obtain ⟨ar, cr, rfl, hcr, hmr, _, _, _⟩ := hr
  obtain ⟨ad, cd, rfl, hcd, hmd, _, _, _⟩ := hd
  have HS1 : Hid (stakeW 18446744073709551615 [] rs = 0) := s1
  have HS2 : Hid (stakeW 1048576 rs ds = 0) := s2
  have HSz : Hid (∀ G, Ground G rs → 67108864 < tot G ∧ tot G ≤ 4294967296) := hs
  have HOf : Hid (∀ W, Calls Tryz.prog 48 #[.slice none 0 0] W fun e w' => ∃ a n c, e = .returned (.agg #[.slice a n c]) ∧ Hid (Below W.heap.size W w') ∧ Hid (U64.SV w' (.slice a n c) [] ∧ ∀ j, (Value.slice a n c).ownBlock = some j → W.heap.size ≤ j)) := fun W => by
    refine (U64.of_any (U64.SV.nil W) (fun y hy => by cases hy) (by simp)).mono ?_
    rintro e w' ⟨v', ts, rfl, ho, ht, hb⟩
    obtain ⟨a, c, e, _⟩ := ho.sv
    have h0 : ts = [] := List.eq_nil_of_length_eq_zero (Nat.le_zero.1 ht.2.2)
    subst h0
    subst e
    exact ⟨a, _, c, rfl, hb, ho.sv, fun j e => (World.ownsRow.lt ho j e).1⟩
  have HSt1 : Hid (∀ W a0 n0 c0, Below w.heap.size w W → U64.SV W (.slice a0 n0 c0) [] → Calls Tryz.prog 47 #[.agg #[.slice a0 n0 c0], .slice ar rs.length cr, .int .u64 18446744073709551615] W fun e w' => ∃ a n c, e = .returned (.tuple #[.agg #[.slice a n c], .int .i64 0]) ∧ Hid (Below W.heap.size W w') ∧ Hid ((∃ G, U64.SV w' (.slice a n c) G ∧ Ground G rs) ∧ ∀ j, (Value.slice a n c).ownBlock = some j → ((Value.slice a0 n0 c0).ownBlock = some j ∧ j < W.heap.size) ∨ W.heap.size ≤ j)) := fun W a n c hW hS => by
    refine (stake_any hS ground_nil (by simp; omega) (HR.out.below hW (Nat.le_refl _)) fr (by omega)).mono ?_
    rintro e w' ⟨hb, a, n, c, rfl, h⟩
    obtain ⟨⟨G', h1, h2⟩, h3⟩ := h s1
    exact ⟨a, n, c, by rw [s1], hb, ⟨G', h1, by rw [List.nil_append] at h2; exact h2⟩, h3⟩
  have HSt2 : Hid (∀ W a0 n0 c0, Below w.heap.size w W → (∃ G, U64.SV W (.slice a0 n0 c0) G ∧ Ground G rs) → Calls Tryz.prog 47 #[.agg #[.slice a0 n0 c0], .slice ad ds.length cd, .int .u64 1048576] W fun e w' => ∃ a n c, e = .returned (.tuple #[.agg #[.slice a n c], .int .i64 0]) ∧ Hid (Below W.heap.size W w') ∧ Hid ((∃ G, U64.SV w' (.slice a n c) G ∧ Ground G (rs ++ ds)) ∧ ∀ j, (Value.slice a n c).ownBlock = some j → ((Value.slice a0 n0 c0).ownBlock = some j ∧ j < W.heap.size) ∨ W.heap.size ≤ j)) := fun W a n c hW ⟨G, hS, hG⟩ => by
    refine (stake_any hS hG (by omega) (HD.out.below hW (Nat.le_refl _)) fd (by omega)).mono ?_
    rintro e w' ⟨hb, a, n, c, rfl, h⟩
    obtain ⟨⟨G', h1, h2⟩, h3⟩ := h s2
    exact ⟨a, n, c, by rw [s2], hb, ⟨G', h1, h2⟩, h3⟩
  have e1 : decide (8 < (rs.length : Int)) = false := decide_eq_false (by omega)
  have e2 : decide (32 < (ds.length : Int)) = false := decide_eq_false (by omega)
  unfold maxLen at hmr hmd
  clear fr fd s1 s2 hs
  go_enter Tryz.func21, Tryz.ntmps21
  go_wp2_with fail
  rename_i K hK
  obtain ⟨W1, hW1⟩ : ∃ W1, w.alloc (Obj.cells #[.slice ar rs.length cr, .slice ad ds.length cd] 24) = W1 := ⟨_, rfl⟩
  have HB1 : Hid (Below w.heap.size w W1) := hW1 ▸ (Below.refl _ _).alloc (Nat.le_refl _) _
  have HX1 : Hid (BoxB W1 w.heap.size (.slice ar rs.length cr) (.slice ad ds.length cd)) := hW1 ▸ heap_alloc_new w _
  rw [hW1]
  clear hW1
  obtain ⟨x0, x1, _, _⟩ := HX1.out.cells
  have key : ∀ (p : Nat) (a : Option Addr) (n c : Nat) (a4 : Option Addr) (n4 c4 : Nat) (W : World), St1 w W (.slice ar rs.length cr) (.slice ad ds.length cd) p (.slice a4 n4 c4) rs → K { tmps := #[.agg #[.slice ar rs.length cr, .slice ad ds.length cd], .pointer (some ⟨w.heap.size, 0, none⟩), .pointer none, .int .i64 0, .pointer (some ⟨p, 0, none⟩), .int .i64 0, undef, undef, undef, .pointer (some ⟨w.heap.size, 0, none⟩), .slice ar rs.length cr, .int .i64 (rs.length : Int), .bool false, .bool false, .pointer (some ⟨w.heap.size, 1, none⟩), .slice ad ds.length cd, .int .i64 (ds.length : Int), .bool false, .bool false, .tuple #[.agg #[.slice a4 n4 c4], .int .i64 0], .agg #[.slice a n c], .pointer (some ⟨w.heap.size, 0, none⟩), .slice ar rs.length cr, .tuple #[.agg #[.slice a4 n4 c4], .int .i64 0], .agg #[.slice a4 n4 c4], .int .i64 0, undef, undef, undef, undef, undef, undef, undef, undef, undef, undef, undef, undef, undef, undef, undef, undef, undef, undef, undef, undef, undef, undef, undef, undef, undef, undef], defers := [] } W := by
    intro p a n c a4 n4 c4 W hSt
    refine hK _ _ ?_
    have HSt : Hid (St1 w W (.slice ar rs.length cr) (.slice ad ds.length cd) p (.slice a4 n4 c4) rs) := hSt
    obtain ⟨hB, hX, hP, hlt, hnew, hG⟩ := hSt
    have HNew : Hid (∀ j, (Value.slice a4 n4 c4).ownBlock = some j → w.heap.size ≤ j) := hnew
    obtain ⟨x0, x1, _, _⟩ := hX.cells
    have y0 := hP.cell
    have HB : Hid (Below w.heap.size w W) := hB
    have HX : Hid (BoxB W w.heap.size (.slice ar rs.length cr) (.slice ad ds.length cd)) := hX
    have HP : Hid (Box1 W p (.slice a4 n4 c4)) := hP
    have HG : Hid (∃ G, U64.SV W (.slice a4 n4 c4) G ∧ Ground G rs) := hG
    have z0 := fun X => U64.cell_alloc' X y0
    have z1 := fun X => U64.cell_alloc' X x0
    have z2 := fun X => U64.cell_alloc' X x1
    clear HSt hB hX hP hG hK hnew
    go_wp2_with fail
    refine (HSt2.out W _ _ _ HB.out HG.out).mono ?_
    rintro e w5 ⟨a5, n5, c5, rfl, HB5, HS5⟩
    have HX5 : Hid (BoxB w5 w.heap.size (.slice ar rs.length cr) (.slice ad ds.length cd)) := HX.out.below HB5.out
    have HP5 : Hid (Box1 w5 p (.slice a4 n4 c4)) := HP.out.below HB5.out
    obtain ⟨x0, x1, _, _⟩ := HX5.out.cells
    have y0 := HP5.out.cell
    have z0 := fun X => U64.cell_alloc' X y0
    have z1 := fun X => U64.cell_alloc' X x0
    have z2 := fun X => U64.cell_alloc' X x1
    obtain ⟨G, hGS, hGG⟩ := HG.out
    have htot : sizeB G = (tot G, true) := if_pos (by have := HSz.out G hGG; omega)
    have htl := HSz.out G hGG
    have HSize : Hid (∀ X, Calls Tryz.prog 49 #[.agg #[.slice a4 n4 c4]] (w5.alloc X) fun e w' => e = .returned (.tuple #[.int .u64 (tot G), .bool true]) ∧ Below (w5.alloc X).heap.size (w5.alloc X) w') := fun X => by
      have := U64.size_any ((hGS.below HB5.out (Nat.le_refl _)).alloc X) hGG.1
      rw [htot] at this
      exact this
    clear htot hGS hGG
    generalize tot G = tg at htl HSize
    go_wp2_with fail
    refine (HSize.out _).mono ?_
    rintro e w6 ⟨rfl, hb6⟩
    have HB6 : Hid (Below w5.heap.size w5 w6) := ((Below.refl _ _).alloc (Nat.le_refl _) _).trans (hb6.mono (by simp))
    have htd : decide (67108864 < tg) = true := decide_eq_true htl.1
    have HBw : Hid (Below w.heap.size w w6) := (HB.out.trans (HB5.out.mono HB.out.size)).trans (HB6.out.mono (by have := HB.out.size; have := HB5.out.size; omega))
    clear hb6 HSize
    clear z0 z1 z2
    go_wp2_with fail
    go_ret2
    exact ⟨rfl, HBw.out⟩
  have HKey : Hid (∀ (p : Nat) (a : Option Addr) (n c : Nat) (a4 : Option Addr) (n4 c4 : Nat) (W : World), St1 w W (.slice ar rs.length cr) (.slice ad ds.length cd) p (.slice a4 n4 c4) rs → K { tmps := #[.agg #[.slice ar rs.length cr, .slice ad ds.length cd], .pointer (some ⟨w.heap.size, 0, none⟩), .pointer none, .int .i64 0, .pointer (some ⟨p, 0, none⟩), .int .i64 0, undef, undef, undef, .pointer (some ⟨w.heap.size, 0, none⟩), .slice ar rs.length cr, .int .i64 (rs.length : Int), .bool false, .bool false, .pointer (some ⟨w.heap.size, 1, none⟩), .slice ad ds.length cd, .int .i64 (ds.length : Int), .bool false, .bool false, .tuple #[.agg #[.slice a4 n4 c4], .int .i64 0], .agg #[.slice a n c], .pointer (some ⟨w.heap.size, 0, none⟩), .slice ar rs.length cr, .tuple #[.agg #[.slice a4 n4 c4], .int .i64 0], .agg #[.slice a4 n4 c4], .int .i64 0, undef, undef, undef, undef, undef, undef, undef, undef, undef, undef, undef, undef, undef, undef, undef, undef, undef, undef, undef, undef, undef, undef, undef, undef, undef, undef], defers := [] } W) := key
  clear key
  have HC1 : Hid (∀ W, Below W1.heap.size W1 W → Calls Tryz.prog 48 #[.slice none 0 0] W fun e w' => ∃ a n c, e = .returned (.agg #[.slice a n c]) ∧ (w'.cell? ⟨w.heap.size, 0, none⟩ = some (.slice ar rs.length cr) ∧ w'.cell? ⟨w.heap.size, 1, none⟩ = some (.slice ad ds.length cd)) ∧ Hid (Below W1.heap.size W1 w') ∧ Hid (U64.SV w' (.slice a n c) [] ∧ ∀ j, (Value.slice a n c).ownBlock = some j → W.heap.size ≤ j) ∧ Hid (Below W.heap.size W w')) := fun W hW => by
    refine (HOf.out _).mono ?_
    rintro e w' ⟨a, n, c, rfl, hb, h⟩
    have hb' : Below W1.heap.size W1 w' := hW.trans (hb.out.mono hW.size)
    obtain ⟨y0, y1, _⟩ := (HX1.out.below hb').cells
    exact ⟨a, n, c, rfl, ⟨y0, y1⟩, hb', h, hb⟩
  have HC2 : Hid (∀ W a0 n0 c0, Below W1.heap.size W1 W → U64.SV W (.slice a0 n0 c0) [] → Calls Tryz.prog 47 #[.agg #[.slice a0 n0 c0], .slice ar rs.length cr, .int .u64 18446744073709551615] W fun e w' => ∃ a n c, e = .returned (.tuple #[.agg #[.slice a n c], .int .i64 0]) ∧ (w'.cell? ⟨w.heap.size, 0, none⟩ = some (.slice ar rs.length cr) ∧ w'.cell? ⟨w.heap.size, 1, none⟩ = some (.slice ad ds.length cd)) ∧ Hid (Below W1.heap.size W1 w') ∧ Hid ((∃ G, U64.SV w' (.slice a n c) G ∧ Ground G rs) ∧ ∀ j, (Value.slice a n c).ownBlock = some j → ((Value.slice a0 n0 c0).ownBlock = some j ∧ j < W.heap.size) ∨ W.heap.size ≤ j) ∧ Hid (Below W.heap.size W w')) := fun w3 a n c hb3 h3 => by
    refine (HSt1.out w3 a n c (HB1.out.trans (hb3.mono HB1.out.size)) h3).mono ?_
    rintro e w' ⟨a, n, c, rfl, hb, h⟩
    have hb' : Below W1.heap.size W1 w' := hb3.trans (hb.out.mono hb3.size)
    obtain ⟨y0, y1, _⟩ := (HX1.out.below hb').cells
    exact ⟨a, n, c, rfl, ⟨y0, y1⟩, hb', h, hb⟩
  have HBd : Hid (Below W1.heap.size W1 W1.drew) := (Below.refl _ _).drew
  go_region_held3 (fun w' => w'.cell? ⟨w.heap.size, 0, none⟩ = some (.slice ar rs.length cr) ∧ w'.cell? ⟨w.heap.size, 1, none⟩ = some (.slice ad ds.length cd)) (first | exact ⟨(U64.set_other (by have := HX1.out.lt; have := HB3.out.size; omega)).trans (by assumption), (U64.set_other (by have := HX1.out.lt; have := HB3.out.size; omega)).trans (by assumption)⟩ | go_keep) (first | (go_at_call 48; first | (refine (HC1.out _ HBd.out).mono ?_; rintro e w3 ⟨a, n, c, rfl, ⟨d0, d1⟩, HB3, HS3, HL3⟩) | (refine (HC1.out _ (HBd.out.alloc HBd.out.size _)).mono ?_; rintro e w3 ⟨a, n, c, rfl, ⟨d0, d1⟩, HB3, HS3, HL3⟩; have HBx : Hid (Box1 w3 W1.heap.size (.slice none 0 0)) := box_after (W := W1.drew) HL3.out)) | (go_at_call 47; first | (refine (HC2.out _ _ _ _ HB3.out HS3.out.1).mono ?_; rintro e w4 ⟨a4, n4, c4, rfl, ⟨f0, f1⟩, HB4, HS4, HL4⟩; try (have hBy := HBx.out.below HL4.out; have k0 := hBy.cell; have k1 := hBy.thawed; clear hBy)) | (refine (HC2.out _ _ _ _ (HB3.out.alloc HB3.out.size _) (HS3.out.1.alloc _)).mono ?_; rintro e w4 ⟨a4, n4, c4, rfl, ⟨f0, f1⟩, HB4, HS4, HL4⟩; have HBy : Hid (Box1 w4 w3.heap.size (.slice none 0 0)) := box_after HL4.out; have k0 := HBy.out.cell; have k1 := HBy.out.thawed)))
  · exact HKey.out _ _ _ _ _ _ _ _ ⟨(HB1.out.trans (HB4.out.mono HB1.out.size)).alloc (by have := HB1.out.size; have := HB4.out.size; omega) _, HX1.out.below (HB4.out.alloc HB4.out.size _), heap_alloc_new w4 _, by have := HX1.out.lt; have := HB4.out.size; omega, fun j e => by
      have h0 := HX1.out.lt
      have h1 := HB3.out.size
      rcases HS4.out.2 j e with ⟨h5, h6⟩ | h5
      · have := HS3.out.2 j h5; simp at this; omega
      · omega, HS4.out.1.imp fun G h => ⟨h.1.alloc _, h.2⟩⟩
  · have hlt := HX1.out.lt
    have h3 := HB3.out.size
    refine HKey.out _ _ _ _ _ _ _ _ ⟨(HB1.out.trans (HB4.out.mono HB1.out.size)).setCell (p := ⟨w3.heap.size, 0, none⟩) (show w.heap.size ≤ w3.heap.size by omega) _, (HX1.out.below HB4.out).keeps (Keeps.setCell _ _ _ _) (by omega), HBy.out.set _, by omega, fun j e => by
      rcases HS4.out.2 j e with ⟨h5, h6⟩ | h5
      · have := HS3.out.2 j h5; simp at this; omega
      · simp at h5; omega, HS4.out.1.imp fun G h => ⟨h.1.keeps (Keeps.setCell _ _ _ _) (fun j e e' => ?_), h.2⟩⟩
    rcases HS4.out.2 j e with ⟨h5, h6⟩ | h5
    · have := sv_lt HS3.out.1 j h5; omega
    · simp at h5; omega
  · have hlt := HX1.out.lt
    have h3 := HB3.out.size
    have h4 := HL3.out.size
    refine HKey.out _ _ _ _ _ _ _ _ ⟨(HB1.out.trans (HB4.out.mono HB1.out.size)).setCell (p := ⟨W1.heap.size, 0, none⟩) (show w.heap.size ≤ W1.heap.size by omega) _, (HX1.out.below HB4.out).keeps (Keeps.setCell _ _ _ _) (by omega), (HBx.out.below HL4.out).set _, by omega, fun j e => by
      rcases HS4.out.2 j e with ⟨h5, h6⟩ | h5
      · have := HS3.out.2 j h5; simp at this; omega
      · omega, HS4.out.1.imp fun G h => ⟨h.1.keeps (Keeps.setCell _ _ _ _) (fun j e e' => ?_), h.2⟩⟩
    have h7 := HBx.out.lt
    rcases HS4.out.2 j e with ⟨h5, h6⟩ | h5
    · have := HS3.out.2 j h5; simp at this; omega
    · omega
end Go.Proofs.YtfnikcjcgneboaaGreat
