import Derived.Test.YtdkhhofgfbnmkaaGreatPk46
import Derived.Test.YtdkhhofgfbnmkaaGreatPk49
import Derived.Test.YtdkhhofgfbnmkaaGreatPk30
import Derived.Deep.DeepCutAuto
import Derived.Deep.CutBlock
import Derived.Test.YtdkhhofgfbnmkaaGreatPk19
import Derived.Test.YtdkhhofgfbnmkaaGreatPk35
/- WalkPlays: a step: Store, what is laid by hand, Leaves, and none. Own work. -/
namespace Go.Proofs.YtdkhhofgfbnmkaaGreat
open Go.RowKit Go.Maps Go.Proofs.YtdkhhofgfbnmkaaGreat.Sp Wk Lv
open Classical in
/-- what eight bytes that are laid by hand are answered -/
noncomputable def layA (LL : List Sp) (a : Nat) : Int × Int := if h : ∃ y : Int × Bool, OffR LL a 8 y.1 y.2 then (if (Classical.choose h).2 then 30 else 0, (Classical.choose h).1) else (0, 0)
theorem layA_is {LL : List Sp} {a : Nat} {x : Int} {b : Bool} (ho : OffR LL a 8 x b) : layA LL a = (if b then 30 else 0, x) := by
  have h : ∃ y : Int × Bool, OffR LL a 8 y.1 y.2 := ⟨(x, b), ho⟩
  unfold layA
  rw [dif_pos h]
  obtain ⟨e1, e2⟩ := (Classical.choose_spec h).unique ho
  rw [e1, e2]
section
variable {w0 wr : World} {base m B : Nat} {V : Value × Value × Value} {v : Nat} {vr vd : Value} {rs ds : List Sp} {p q : Hs} {n k : Nat}
theorem gm_lay1 {a val : Nat} (h : GMg w0 wr base m B V v vr vd rs ds p q n k) (ha : a ≤ 18446744073709551615) (hval : val ≤ 18446744073709551615) (hn : n ≤ 4611686018427387904) (hS : p.2.2 ≤ 4611686018427387904) :
    Calls Tryz.prog 17 #[.pointer (some ⟨m, 0, none⟩), .int .u64 (a : Int), .int .i64 8, .int .u64 (val : Int)] wr fun e w' => e = .returned (.agg #[.int .i64 (layA (rs ++ ds) a).1, .int .u64 (layA (rs ++ ds) a).2]) ∧ Hid (GMg w0 w' base m B V v vr vd rs ds (stF (rs ++ ds) a val p) q (n + 1) k) ∧ Hid (Bx base wr w') := by
  obtain ⟨T, X, hX, h1, h2, h3, h4, h5, h6, h7⟩ := h
  refine (store_any (n := 8) h1 ha (.inr (.inr (.inr rfl))) hval (by omega) hS).mono ?_
  rintro e w' ⟨x, b, ho, rfl, hk, hb1, hb2⟩
  rw [layA_is ho, stF_off ho]
  cases b with
  | true =>
    obtain ⟨r1, r2⟩ := gm_pack1 (p' := p) (n' := n + 1) h1 h2 h3 h4 h5 h6 h7 hk ⟨X + 1, by omega, hb1 rfl⟩ (Grows.refl _ _)
    exact ⟨rfl, r1, r2⟩
  | false =>
    obtain ⟨T', hm', hg⟩ := hb2 rfl
    obtain ⟨r1, r2⟩ := gm_pack1 (p' := (putAt p.1 a ((Pl.le 8 val).take 8), p.2.1, p.2.2 + 1)) (n' := n + 1) h1 h2 h3 h4 h5 h6 h7 hk ⟨X, by omega, hm'⟩ hg
    exact ⟨rfl, r1, r2⟩
theorem gm_lay2 {a val : Nat} (h : GMg w0 wr base m B V v vr vd rs ds p q n k) (hr : U64.SV w0 vr rs) (hd : U64.SV w0 vd ds) (hl : rs.length + ds.length ≤ 64) (hpg : Pgd (rs ++ ds)) (ha : a ≤ 18446744073709551615) (hn : k ≤ 4611686018427387904) (hS : q.2.2 ≤ 4611686018427387904) :
    Calls Tryz.prog 11 #[.pointer (some ⟨v, 0, none⟩), .int .u64 (a : Int), .int .i64 8, .int .u64 (val : Int)] wr fun e w' => e = .returned (.agg #[.int .i64 (layA (rs ++ ds) a).1, .int .u64 (layA (rs ++ ds) a).2]) ∧ Hid (GMg w0 w' base m B V v vr vd rs ds p (stF (rs ++ ds) a val q) n (k + 1)) ∧ Hid (Bx base wr w') := by
  obtain ⟨T, X, hX, h1, h2, h3, h4, h5, h6, vp, ps, X', hX', h7, h8⟩ := h
  refine (rstore_g (Gp := Og (rs ++ ds)) (n := 8) h7 (.inr (.inr (.inr rfl))) h5 (hr.below h6 (Nat.le_refl _)) (hd.below h6 (Nat.le_refl _)) h1.mx.sane hl ha (by omega) hS h8 (og_of hpg)).mono ?_
  rintro e w' ⟨x, b, ho, rfl, hk, hb1, hb2⟩
  rw [layA_is ho, stF_off ho]
  cases b with
  | true =>
    obtain ⟨r1, r2⟩ := gm_pack2 (q' := q) (k' := k + 1) hX h1 h2 h3 h4 h5 h6 hk ⟨vp, ps, X' + 1, by omega, hb1 rfl, h8⟩
    exact ⟨rfl, r1, r2⟩
  | false =>
    obtain ⟨vp', ps', hr', hg'⟩ := hb2 rfl
    obtain ⟨r1, r2⟩ := gm_pack2 (q' := (putAt q.1 a ((Pl.le 8 val).take 8), q.2.1, q.2.2 + 1)) (k' := k + 1) hX h1 h2 h3 h4 h5 h6 hk ⟨vp', ps', X', by omega, hr', hg'⟩
    exact ⟨rfl, r1, r2⟩
end
set_option maxRecDepth 100000 in
set_option maxHeartbeats 4000000 in
theorem step_st {w0 wr : World} {base m B : Nat} {V : Value × Value × Value} {v : Nat} {vr vd : Value} {rs ds : List Sp} {p : Hs} {n k : Nat} {nn : Int} {rt vt vl : Nat} (h : GMg w0 wr base m B V v vr vd rs ds p p n k) (hr : U64.SV w0 vr rs) (hd : U64.SV w0 vd ds) (hl : rs.length + ds.length ≤ 64) (hpg : Pgd (rs ++ ds)) (ht : rt ≤ 18446744073709551615) (hval : vl ≤ 18446744073709551615) (hn : n ≤ 4000000000000000000) (hk : k ≤ 4000000000000000000) (hS : p.2.2 ≤ 4000000000000000000) :
    Calls Tryz.prog 8 #[.iface 28 (.pointer (some ⟨m, 0, none⟩)), .pointer (some ⟨v, 0, none⟩), .agg #[.int .i64 3, .int .u64 (rt : Int), .int .u64 (vt : Int), .int .u64 (vl : Int), .int .i64 nn]] wr (StepP w0 base m B V v vr vd rs ds p n k) := by
  have hbs := h.base
  obtain ⟨W1, hW1⟩ : ∃ W1, wr.alloc (Obj.cells #[.int .i64 3, .int .u64 (rt : Int), .int .u64 (vt : Int), .int .u64 (vl : Int), .int .i64 nn] 36) = W1 := ⟨_, rfl⟩
  have hb1 : Below wr.heap.size wr W1 := hW1 ▸ (Below.refl _ _).alloc (Nat.le_refl _) _
  have HO1 : Hid (OpAt W1 wr.heap.size 3 rt vt vl nn) := hW1 ▸ OpAt.new wr 3 rt vt vl nn
  have HG1 : Hid (GMg w0 W1 base m B V v vr vd rs ds p p n k) := h.below hb1
  have HC1 : Hid (∀ W, GMg w0 W base m B V v vr vd rs ds p p n k → Calls Tryz.prog 24 #[.iface 28 (.pointer (some ⟨m, 0, none⟩)), .int .u64 (rt : Int), .int .u64 (vt : Int), .int .i64 nn, .int .u64 (vl : Int)] W fun e w' => e = .returned (.agg #[.int .i64 (stA (rs ++ ds) p.1 rt vt nn).1, .int .u64 ((stA (rs ++ ds) p.1 rt vt nn).2 : Int)]) ∧ Hid (GMg w0 w' base m B V v vr vd rs ds (stH (rs ++ ds) rt vt vl nn p) p (n + 32) k) ∧ Hid (Bx base W w')) := fun W hW => gm_st1 hW ht hval (by omega) (by omega)
  have HC2 : Hid (∀ W, GMg w0 W base m B V v vr vd rs ds (stH (rs ++ ds) rt vt vl nn p) p (n + 32) k → Calls Tryz.prog 25 #[.pointer (some ⟨v, 0, none⟩), .int .u64 (rt : Int), .int .u64 (vt : Int), .int .i64 nn, .int .u64 (vl : Int)] W fun e w' => e = .returned (.agg #[.int .i64 (stA (rs ++ ds) p.1 rt vt nn).1, .int .u64 ((stA (rs ++ ds) p.1 rt vt nn).2 : Int)]) ∧ Hid (GMg w0 w' base m B V v vr vd rs ds (stH (rs ++ ds) rt vt vl nn p) (stH (rs ++ ds) rt vt vl nn p) (n + 32) k) ∧ Hid (Bx base W w')) := fun W hW => gm_st2 hW hr hd hl hpg ht hval (by omega) (by omega)
  have HSm : Hid (∀ a b W, Calls Tryz.prog 22 #[.agg #[.int .i64 a, .int .u64 b], .agg #[.int .i64 a, .int .u64 b]] W fun e w' => e = .returned (.bool true) ∧ Below W.heap.size W w') := same_one
  have HLe : Hid ((stH (rs ++ ds) rt vt vl nn p).2.1 ≤ p.2.1 + 8 ∧ (stH (rs ++ ds) rt vt vl nn p).2.2 ≤ p.2.2 + 8) := by
    have := stH_le (rs ++ ds) rt vt vl nn p
    exact ⟨by omega, this.2⟩
  obtain ⟨why, hwhy⟩ : ∃ why : Int, why = (stA (rs ++ ds) p.1 rt vt nn).1 := ⟨_, rfl⟩
  obtain ⟨xx, hxx⟩ : ∃ xx : Int, xx = ((stA (rs ++ ds) p.1 rt vt nn).2 : Int) := ⟨_, rfl⟩
  rw [← hxx, ← hwhy] at HC1 HC2
  obtain ⟨PP, hPP⟩ : ∃ PP, PP = stH (rs ++ ds) rt vt vl nn p := ⟨_, rfl⟩
  rw [← hPP] at HC1 HC2 HLe
  clear h hr hd hb1 hwhy hxx hPP hpg
  obtain ⟨o0, o1, o2, o3, o4⟩ := HO1.out.cells
  go_enter Tryz.func8, Tryz.ntmps8
  go_wp2_with fail
  clear hW1 o0 o1 o2 o3 o4
  have HOd : Hid (OpAt W1.drew wr.heap.size 3 rt vt vl nn) := HO1.out
  have HGd : Hid (GMg w0 W1.drew base m B V v vr vd rs ds p p n k) := HG1.out.below (below_drewNn W1 1)
  have HS0 := Lib.hid HOd.out.cells.2
  clear HO1 HG1
  go_region_held3 (fun wx => wx.cell? ⟨wr.heap.size, 1, none⟩ = some (.int .u64 (rt : Int)) ∧ wx.cell? ⟨wr.heap.size, 2, none⟩ = some (.int .u64 (vt : Int)) ∧ wx.cell? ⟨wr.heap.size, 3, none⟩ = some (.int .u64 (vl : Int)) ∧ wx.cell? ⟨wr.heap.size, 4, none⟩ = some (.int .i64 nn)) (first | exact HS3.out | exact HS2.out | exact HS1.out | exact HS0.out)
    (first
      | (go_at_call 24; refine (HC1.out _ HGd.out).mono ?_; rintro e x1 ⟨rfl, HGx, HBx⟩; have HOx := Lib.hid (HOd.out.bx HBx.out hbs); have HS1 := Lib.hid HOx.out.cells.2; clear HC1 HGd)
      | (go_at_call 25; refine (HC2.out _ HGx.out).mono ?_; rintro e x2 ⟨rfl, HGy, HBy⟩; have HOy := Lib.hid (HOx.out.bx HBy.out hbs); have HS2 := Lib.hid HOy.out.cells.2; clear HC2 HGx)
      | (go_at_call 22; refine (HSm.out _ _ _).mono ?_; rintro e x3 ⟨rfl, hb3⟩; have HGz := Lib.hid (HGy.out.below hb3); have HOz := Lib.hid (HOy.out.below hb3); have HS3 := Lib.hid HOz.out.cells.2; clear HSm hb3 HGy))
  all_goals
    go_wp2_with fail
    go_ret
    exact ⟨rfl, _, Lib.hid (HGz.out.mono (by omega) (by omega)), HLe.out⟩
set_option maxRecDepth 100000 in
set_option maxHeartbeats 4000000 in
theorem step_lay {w0 wr : World} {base m B : Nat} {V : Value × Value × Value} {v : Nat} {vr vd : Value} {rs ds : List Sp} {p : Hs} {n k : Nat} {nn : Int} {rt vt vl : Nat} (h : GMg w0 wr base m B V v vr vd rs ds p p n k) (hr : U64.SV w0 vr rs) (hd : U64.SV w0 vd ds) (hl : rs.length + ds.length ≤ 64) (hpg : Pgd (rs ++ ds)) (hv : vt ≤ 18446744073709551615) (hval : vl ≤ 18446744073709551615) (hn : n ≤ 4000000000000000000) (hk : k ≤ 4000000000000000000) (hS : p.2.2 ≤ 4000000000000000000) :
    Calls Tryz.prog 8 #[.iface 28 (.pointer (some ⟨m, 0, none⟩)), .pointer (some ⟨v, 0, none⟩), .agg #[.int .i64 6, .int .u64 (rt : Int), .int .u64 (vt : Int), .int .u64 (vl : Int), .int .i64 nn]] wr (StepP w0 base m B V v vr vd rs ds p n k) := by
  have hbs := h.base
  obtain ⟨W1, hW1⟩ : ∃ W1, wr.alloc (Obj.cells #[.int .i64 6, .int .u64 (rt : Int), .int .u64 (vt : Int), .int .u64 (vl : Int), .int .i64 nn] 36) = W1 := ⟨_, rfl⟩
  have hb1 : Below wr.heap.size wr W1 := hW1 ▸ (Below.refl _ _).alloc (Nat.le_refl _) _
  have HO1 : Hid (OpAt W1 wr.heap.size 6 rt vt vl nn) := hW1 ▸ OpAt.new wr 6 rt vt vl nn
  have HG1 : Hid (GMg w0 W1 base m B V v vr vd rs ds p p n k) := h.below hb1
  have HC1 : Hid (∀ W, GMg w0 W base m B V v vr vd rs ds p p n k → Calls Tryz.prog 17 #[.pointer (some ⟨m, 0, none⟩), .int .u64 (vt : Int), .int .i64 8, .int .u64 (vl : Int)] W fun e w' => e = .returned (.agg #[.int .i64 (layA (rs ++ ds) vt).1, .int .u64 (layA (rs ++ ds) vt).2]) ∧ Hid (GMg w0 w' base m B V v vr vd rs ds (stF (rs ++ ds) vt vl p) p (n + 1) k) ∧ Hid (Bx base W w')) := fun W hW => gm_lay1 hW hv hval (by omega) (by omega)
  have HC2 : Hid (∀ W, GMg w0 W base m B V v vr vd rs ds (stF (rs ++ ds) vt vl p) p (n + 1) k → Calls Tryz.prog 11 #[.pointer (some ⟨v, 0, none⟩), .int .u64 (vt : Int), .int .i64 8, .int .u64 (vl : Int)] W fun e w' => e = .returned (.agg #[.int .i64 (layA (rs ++ ds) vt).1, .int .u64 (layA (rs ++ ds) vt).2]) ∧ Hid (GMg w0 w' base m B V v vr vd rs ds (stF (rs ++ ds) vt vl p) (stF (rs ++ ds) vt vl p) (n + 1) (k + 1)) ∧ Hid (Bx base W w')) := fun W hW => gm_lay2 hW hr hd hl hpg hv (by omega) (by omega)
  have HSm : Hid (∀ a b W, Calls Tryz.prog 22 #[.agg #[.int .i64 a, .int .u64 b], .agg #[.int .i64 a, .int .u64 b]] W fun e w' => e = .returned (.bool true) ∧ Below W.heap.size W w') := same_one
  have HLe : Hid ((stF (rs ++ ds) vt vl p).2.1 ≤ p.2.1 + 8 ∧ (stF (rs ++ ds) vt vl p).2.2 ≤ p.2.2 + 8) := by
    have := stF_le (rs ++ ds) vt vl p
    exact ⟨by omega, by omega⟩
  obtain ⟨why, hwhy⟩ : ∃ why : Int, why = (layA (rs ++ ds) vt).1 := ⟨_, rfl⟩
  obtain ⟨xx, hxx⟩ : ∃ xx : Int, xx = (layA (rs ++ ds) vt).2 := ⟨_, rfl⟩
  rw [← hxx, ← hwhy] at HC1 HC2
  obtain ⟨PP, hPP⟩ : ∃ PP, PP = stF (rs ++ ds) vt vl p := ⟨_, rfl⟩
  rw [← hPP] at HC1 HC2 HLe
  have hme : ∀ (w : World) (p : Option Addr), (method 319 28 (.pointer p) "Store").run Tryz.prog w = .ok (17, .pointer p) w := fun _ _ => by kernel_rfl
  have hna : ∀ (W : World) (a : Addr), (nilAhead 319 28 (.pointer (some a)) "Store").run Tryz.prog W = .ok (some false) W := fun _ _ => by kernel_rfl
  clear h hr hd hb1 hwhy hxx hPP hpg
  obtain ⟨o0, o1, o2, o3, o4⟩ := HO1.out.cells
  go_enter Tryz.func8, Tryz.ntmps8
  go_wp2_with fail
  clear hW1 o0 o1 o2 o3 o4
  have HOd : Hid (OpAt W1.drew wr.heap.size 6 rt vt vl nn) := HO1.out
  have HGd : Hid (GMg w0 W1.drew base m B V v vr vd rs ds p p n k) := HG1.out.below (below_drewNn W1 1)
  have HS0 := Lib.hid HOd.out.cells.2
  clear HO1 HG1
  go_region_held3 (fun wx => wx.cell? ⟨wr.heap.size, 1, none⟩ = some (.int .u64 (rt : Int)) ∧ wx.cell? ⟨wr.heap.size, 2, none⟩ = some (.int .u64 (vt : Int)) ∧ wx.cell? ⟨wr.heap.size, 3, none⟩ = some (.int .u64 (vl : Int)) ∧ wx.cell? ⟨wr.heap.size, 4, none⟩ = some (.int .i64 nn)) (first | exact HS3.out | exact HS2.out | exact HS1.out | exact HS0.out)
    (first
      | (go_at_call 17; refine (HC1.out _ HGd.out).mono ?_; rintro e x1 ⟨rfl, HGx, HBx⟩; have HOx := Lib.hid (HOd.out.bx HBx.out hbs); have HS1 := Lib.hid HOx.out.cells.2; clear HC1 HGd)
      | (go_at_call 11; refine (HC2.out _ HGx.out).mono ?_; rintro e x2 ⟨rfl, HGy, HBy⟩; have HOy := Lib.hid (HOx.out.bx HBy.out hbs); have HS2 := Lib.hid HOy.out.cells.2; clear HC2 HGx)
      | (go_at_call 22; refine (HSm.out _ _ _).mono ?_; rintro e x3 ⟨rfl, hb3⟩; have HGz := Lib.hid (HGy.out.below hb3); have HOz := Lib.hid (HOy.out.below hb3); have HS3 := Lib.hid HOz.out.cells.2; clear HSm hb3 HGy))
  all_goals
    go_wp2_with fail
    go_ret
    exact ⟨rfl, _, Lib.hid (HGz.out.mono (by omega) (by omega)), HLe.out⟩
set_option maxRecDepth 100000 in
set_option maxHeartbeats 4000000 in
theorem step_lv {w0 wr : World} {base m B : Nat} {V : Value × Value × Value} {v : Nat} {vr vd : Value} {rs ds : List Sp} {p : Hs} {n k : Nat} {nn : Int} {rt vt vl : Nat} (h : GMg w0 wr base m B V v vr vd rs ds p p n k) (hr : U64.SV w0 vr rs) (hd : U64.SV w0 vd ds) (hl : rs.length + ds.length ≤ 64) (ht : rt ≤ 18446744073709551615) (hn : n ≤ 4000000000000000000) (hk : k ≤ 4000000000000000000) :
    Calls Tryz.prog 8 #[.iface 28 (.pointer (some ⟨m, 0, none⟩)), .pointer (some ⟨v, 0, none⟩), .agg #[.int .i64 5, .int .u64 (rt : Int), .int .u64 (vt : Int), .int .u64 (vl : Int), .int .i64 nn]] wr (StepP w0 base m B V v vr vd rs ds p n k) := by
  obtain ⟨W1, hW1⟩ : ∃ W1, wr.alloc (Obj.cells #[.int .i64 5, .int .u64 (rt : Int), .int .u64 (vt : Int), .int .u64 (vl : Int), .int .i64 nn] 36) = W1 := ⟨_, rfl⟩
  have hb1 : Below wr.heap.size wr W1 := hW1 ▸ (Below.refl _ _).alloc (Nat.le_refl _) _
  have HO1 : Hid (OpAt W1 wr.heap.size 5 rt vt vl nn) := hW1 ▸ OpAt.new wr 5 rt vt vl nn
  have HG1 : Hid (GMg w0 W1 base m B V v vr vd rs ds p p n k) := h.below hb1
  have HC1 : Hid (∀ W, GMg w0 W base m B V v vr vd rs ds p p n k → Calls Tryz.prog 26 #[.iface 28 (.pointer (some ⟨m, 0, none⟩)), .pointer (some ⟨v, 0, none⟩), .agg #[.int .i64 5, .int .u64 (rt : Int), .int .u64 (vt : Int), .int .u64 (vl : Int), .int .i64 nn]] W fun e w' => e = .returned (.bool true) ∧ Hid (GMg w0 w' base m B V v vr vd rs ds p p (n + 4000) k)) := fun W hW => leaves_any hW hr hd hl ht hn hk
  clear h hr hd hb1
  obtain ⟨o0, o1, o2, o3, o4⟩ := HO1.out.cells
  go_enter Tryz.func8, Tryz.ntmps8
  go_wp2_with fail
  clear hW1
  refine (HC1.out W1 HG1.out).mono ?_
  rintro e w2 ⟨rfl, HG2⟩
  clear HC1 HO1 HG1 o0 o1 o2 o3 o4
  go_wp2_with fail
  go_ret
  exact ⟨rfl, p, Lib.hid (HG2.out.mono (by omega) (by omega)), by omega, by omega⟩
set_option maxRecDepth 100000 in
set_option maxHeartbeats 4000000 in
theorem step_no {w0 wr : World} {base m B : Nat} {V : Value × Value × Value} {v : Nat} {vr vd : Value} {rs ds : List Sp} {p : Hs} {n k : Nat} {kd nn : Int} {rt vt vl : Nat} (h : GMg w0 wr base m B V v vr vd rs ds p p n k) (h1 : (kd == 1) = false) (h2 : (kd == 2) = false) (h3 : (kd == 3) = false) (h4 : (kd == 4) = false) (h5 : (kd == 5) = false) (h6 : (kd == 6) = false) :
    Calls Tryz.prog 8 #[.iface 28 (.pointer (some ⟨m, 0, none⟩)), .pointer (some ⟨v, 0, none⟩), .agg #[.int .i64 kd, .int .u64 (rt : Int), .int .u64 (vt : Int), .int .u64 (vl : Int), .int .i64 nn]] wr (StepP w0 base m B V v vr vd rs ds p n k) := by
  obtain ⟨W1, hW1⟩ : ∃ W1, wr.alloc (Obj.cells #[.int .i64 kd, .int .u64 (rt : Int), .int .u64 (vt : Int), .int .u64 (vl : Int), .int .i64 nn] 36) = W1 := ⟨_, rfl⟩
  have hb1 : Below wr.heap.size wr W1 := hW1 ▸ (Below.refl _ _).alloc (Nat.le_refl _) _
  have HO1 : Hid (OpAt W1 wr.heap.size kd rt vt vl nn) := hW1 ▸ OpAt.new wr kd rt vt vl nn
  have HG1 : Hid (GMg w0 W1 base m B V v vr vd rs ds p p n k) := h.below hb1
  clear h hb1
  obtain ⟨o0, o1, o2, o3, o4⟩ := HO1.out.cells
  go_enter Tryz.func8, Tryz.ntmps8
  go_wp2_with fail
  go_ret
  exact ⟨rfl, p, Lib.hid (HG1.out.mono (by omega) (by omega)), by omega, by omega⟩
theorem step_any {w0 wr : World} {base m B : Nat} {V : Value × Value × Value} {v : Nat} {vr vd : Value} {rs ds : List Sp} {p : Hs} {n k : Nat} {kd nn : Int} {rt vt vl : Nat} (h : GMg w0 wr base m B V v vr vd rs ds p p n k) (hr : U64.SV w0 vr rs) (hd : U64.SV w0 vd ds) (hl : rs.length + ds.length ≤ 64) (hpg : Pgd (rs ++ ds)) (ht : rt ≤ 18446744073709551615) (hv : vt ≤ 18446744073709551615) (hval : vl ≤ 18446744073709551615) (hn : n ≤ 4000000000000000000) (hk : k ≤ 4000000000000000000) (hL : p.2.1 ≤ 4000000000000000000) (hS : p.2.2 ≤ 4000000000000000000) :
    Calls Tryz.prog 8 #[.iface 28 (.pointer (some ⟨m, 0, none⟩)), .pointer (some ⟨v, 0, none⟩), .agg #[.int .i64 kd, .int .u64 (rt : Int), .int .u64 (vt : Int), .int .u64 (vl : Int), .int .i64 nn]] wr (StepP w0 base m B V v vr vd rs ds p n k) := by
  by_cases h1 : kd = 1
  · subst h1
    exact step_tr h hr hd hl ht hv hn hk
  by_cases h2 : kd = 2
  · subst h2
    exact step_ld h hr hd hl ht hn hk hL
  by_cases h3 : kd = 3
  · subst h3
    exact step_st h hr hd hl hpg ht hval hn hk hS
  by_cases h4 : kd = 4
  · subst h4
    exact step_ft h hr hd hl ht hn hk hL
  by_cases h5 : kd = 5
  · subst h5
    exact step_lv h hr hd hl ht hn hk
  by_cases h6 : kd = 6
  · subst h6
    exact step_lay h hr hd hl hpg hv hval hn hk hS
  exact step_no h (by simpa using h1) (by simpa using h2) (by simpa using h3) (by simpa using h4) (by simpa using h5) (by simpa using h6)
end Go.Proofs.YtdkhhofgfbnmkaaGreat
/- The document's own Kept. Own work. -/
namespace Go.Proofs.YtdkhhofgfbnmkaaGreat
open Go.RowKit Go.Maps Go.Proofs.YtdkhhofgfbnmkaaGreat.Sp Wk
theorem cntN_list (M : Nat → Nat) : ∀ (n : Nat) (l : List Nat), l.Nodup → (∀ k ∈ l, k < n) → (∀ k, k < n → nz M k = true → k ∈ l) → cntN M n = l.countP (nz M)
  | 0, l, _, h, _ => by
    cases l with
    | nil => rfl
    | cons a l => have := h a (List.mem_cons_self ..); omega
  | n + 1, l, hn, hl, ha => by
    unfold cntN
    by_cases hm : n ∈ l
    · have hp := List.perm_cons_erase hm
      rw [hp.countP_eq (nz M), List.countP_cons, ← cntN_list M n (l.erase n) (hn.erase n) (fun k hk => ?_) (fun k hk hz => ?_)]
      · have := hl k (List.mem_of_mem_erase hk)
        have hne : k ≠ n := fun e => by
          rw [e] at hk
          exact hn.not_mem_erase hk
        omega
      · exact (List.mem_erase_of_ne (by omega)).2 (ha k (by omega) hz)
    · have hz : nz M n = false := by
        cases e : nz M n with
        | false => rfl
        | true => exact absurd (ha n (by omega) e) hm
      rw [hz, cntN_list M n l hn (fun k hk => ?_) (fun k hk hz => ha k (by omega) hz)]
      · rfl
      · have := hl k hk
        have hne : k ≠ n := fun e => hm (e ▸ hk)
        omega
theorem countP_num (f : Nat → Bool) (ps : List (Int × Nat)) : ps.countP (fun x => f x.1.toNat) = (ps.map fun x => x.1.toNat).countP f := by
  rw [List.countP_map]
  rfl
theorem cnt_pages {M : Nat → Nat} {ps : List (Int × Nat)} (hp : Pn ps) (hb : ∀ x ∈ ps, x.1 < 1048576) (hz : ∀ p, (∀ x ∈ ps, x.1 ≠ ((p / 4096 : Nat) : Int)) → M p = 0) : ∀ n, n = pagesN → ps.countP (fun x => nz M x.1.toNat) = cntN M n := by
  intro n hn
  have hn2 : (n : Int) = 1048576 := by rw [hn]; rfl
  clear hn
  refine (countP_num (nz M) ps).trans (cntN_list M n (ps.map fun x => x.1.toNat) ?_ (fun k hk => ?_) (fun k _ hk => ?_)).symm
  · have h1 := hp.1
    rw [List.nodup_iff_pairwise_ne] at h1 ⊢
    rw [List.pairwise_map] at h1 ⊢
    refine h1.imp_of_mem (fun {x y} hx hy hxy e => hxy ?_)
    have := hp.2 x hx
    have := hp.2 y hy
    omega
  · obtain ⟨x, hx, rfl⟩ := List.mem_map.1 hk
    have := hp.2 x hx
    have := hb x hx
    omega
  · by_cases h : ∃ x ∈ ps, x.1 = (k : Int)
    · obtain ⟨x, hx, e⟩ := h
      exact List.mem_map.2 ⟨x, hx, by rw [e]; rfl⟩
    · have : nz M k = false := nz_false.2 (fun i hi => hz _ (fun x hx e => h ⟨x, hx, by rw [show (k * 4096 + i) / 4096 = k by omega] at e; exact e⟩))
      rw [this] at hk
      cases hk
/-- is one of a page's first bytes not 0? -/
def nzTo (M : Nat → Nat) (k j : Nat) : Bool := ((pageOf M k).take j).any fun z => z != 0
theorem nzTo_zero (M : Nat → Nat) (k : Nat) : nzTo M k 0 = false := rfl
theorem nzTo_all (M : Nat → Nat) (k : Nat) : nzTo M k 4096 = nz M k := by
  unfold nzTo nz
  rw [List.take_of_length_le (by rw [pageOf_length]; exact Nat.le_refl _)]
theorem nzTo_succ (M : Nat → Nat) (k j : Nat) (h : j < 4096) : nzTo M k (j + 1) = (nzTo M k j || (M (k * 4096 + j) != 0)) := by
  unfold nzTo
  rw [List.take_add_one, pageOf_get M k j h, List.any_append]
  simp
theorem countP_step {f : Int × Nat → Bool} {ps : List (Int × Nat)} {i : Nat} (h : i < ps.length) : (ps.take (i + 1)).countP f = (ps.take i).countP f + if f ps[i] then 1 else 0 := by
  rw [List.take_succ_eq_append_getElem h, List.countP_append]
  simp [List.countP_cons]
set_option maxRecDepth 100000 in
set_option maxHeartbeats 4000000 in
theorem rkept_at {w : World} {base v : Nat} {vr vd vp : Value} {ps : List (Int × Nat)} {M : Nat → Nat} {L S X : Nat} (h : RM w base v vr vd vp ps M L S X) :
    Calls Tryz.prog 29 #[.pointer (some ⟨v, 0, none⟩)] w fun e w' => e = .returned (.int .i64 (ps.countP (fun x => nz M x.1.toNat) : Int)) ∧ w' = w := by
  have HR := Lib.hid h
  obtain ⟨c0, c1, c2, _⟩ := h.2.1.cells
  obtain ⟨a1, cc, hvp, hc1, hc2, _⟩ := h.2.2.1.form
  obtain ⟨N, hN⟩ : ∃ N, N = ps.length := ⟨_, rfl⟩
  have HN := Lib.hid hN
  have hnl : N ≤ 2097153 := by rw [hN]; exact h.pn.len
  rw [← hN] at hvp hc1
  obtain ⟨f, hf⟩ : ∃ f : Int × Nat → Bool, f = fun x => nz M x.1.toNat := ⟨_, rfl⟩
  have HF := Lib.hid hf
  rw [← hf]
  unfold maxLen at hc2
  subst hvp
  clear h hN hf c0 c1
  go_enter Tryz.func29, Tryz.ntmps29
  go_wp2_with fail
  go_loopw [3, 4] (fun nv iv wr => ∃ i c : Nat, i ≤ N ∧ nv = .int .i64 (c : Int) ∧ iv = .int .i64 (i : Int) ∧ c ≤ i ∧ Hid (c = (ps.take i).countP f) ∧ wr = w) (fun _ iv _ => N - (intOf iv).toNat)
  case atStart => exact ⟨0, 0, Nat.zero_le _, rfl, rfl, Nat.le_refl _, rfl, rfl⟩
  case round =>
    obtain ⟨i, c, hi, rfl, rfl, hci, HC, rfl⟩ := hrel
    by_cases hlt : i < N
    · have qi : (i : Int) < (N : Int) := by omega
      have hil : i < ps.length := by rw [← HN.out]; exact hlt
      obtain ⟨g, hal, d0, d1⟩ := HR.out.2.2.1.cell i hil
      subst hal
      obtain ⟨x, hx⟩ : ∃ x, x = ps[i] := ⟨_, rfl⟩
      have HX := Lib.hid hx
      have HP := Lib.hid (HR.out.2.2.2.1 _ (List.getElem_mem hil)).2
      rw [← hx] at d0 d1 HP
      obtain ⟨gp, hgp⟩ : ∃ gp, gp = x.2 := ⟨_, rfl⟩
      rw [← hgp] at d1 HP
      obtain ⟨pg, hpg⟩ : ∃ pg, pg = x.1.toNat := ⟨_, rfl⟩
      have HPg := Lib.hid hpg
      rw [← hpg] at HP
      clear hx hgp hpg d0
      go_wp2_with fail
      go_loopw [5, 6] (fun sv jv wq => ∃ j : Nat, j ≤ 4096 ∧ sv = .bool (nzTo M pg j) ∧ jv = .int .i64 (j : Int) ∧ wq = wr) (fun _ jv _ => 4096 - (intOf jv).toNat)
      case atStart => exact ⟨0, by omega, by rw [nzTo_zero], rfl, rfl⟩
      case round =>
        obtain ⟨j, hj, rfl, rfl, rfl⟩ := hrel
        by_cases hjl : j < 4096
        · have HS := Lib.hid (nzTo_succ M pg j hjl)
          have y0 := HP.out.cell j hjl
          have qj : (j : Int) < 4096 := by omega
          generalize M (pg * 4096 + j) = z at HS y0
          generalize nzTo M pg j = b1 at HS
          cases b1 with
          | true =>
            go_wp2_with fail
            exact ⟨⟨j + 1, by omega, by rw [HS.out]; rfl, by go_num, trivial⟩, by simp [intOf]; omega⟩
          | false =>
            go_wp2_with fail
            exact ⟨⟨j + 1, by omega, by rw [HS.out, Bool.false_or, show ((z : Int) != 0) = (z != 0) by rw [Bool.eq_iff_iff]; simp], by go_num, trivial⟩, by simp [intOf]; omega⟩
        · obtain rfl : j = 4096 := by omega
          have HZ := Lib.hid (nzTo_all M pg)
          have HStp : Hid ((ps.take (i + 1)).countP f = c + if nzTo M pg 4096 then 1 else 0) := by
            show _ = _
            rw [countP_step hil, ← HC.out, nzTo_all, HPg.out, HX.out, HF.out]
          generalize nzTo M pg 4096 = b at HStp ⊢
          cases b with
          | true =>
            go_wp2_with fail
            exact ⟨⟨i + 1, c + 1, by omega, by go_num, by go_num, by omega, HStp.out.symm, trivial⟩, by simp [intOf]; omega⟩
          | false =>
            go_wp2_with fail
            exact ⟨⟨i + 1, c, by omega, rfl, by go_num, by omega, HStp.out.symm, trivial⟩, by simp [intOf]; omega⟩
    · obtain rfl : i = N := by omega
      go_wp2_with fail
      go_ret
      refine ⟨?_, rfl⟩
      rw [HC.out, List.take_of_length_le (by rw [← HN.out]; exact Nat.le_refl _)]
      rfl
end Go.Proofs.YtdkhhofgfbnmkaaGreat
/- The law's helpers: Within, Same; faults that are compared. Own work. -/
namespace Go.Proofs.YtdkhhofgfbnmkaaGreat
open Go.RowKit Go.Maps Go.Proofs.YtdkhhofgfbnmkaaGreat.Sp Wk
set_option maxRecDepth 100000 in
set_option maxHeartbeats 4000000 in
theorem within3_any {n : Int} (w : World) :
    Calls Tryz.prog 51 #[.int .i64 n, .int .i64 0, .int .i64 3] w fun e w' => ∃ r : Nat, e = .returned (.int .i64 (r : Int)) ∧ r ≤ 3 ∧ w' = w := by
  obtain ⟨q, hq⟩ : ∃ q, q = n.tmod 4 := ⟨_, rfl⟩
  have hq1 : -4 < q ∧ q < 4 := by
    have := Int.tmod_lt_of_pos n (b := 4) (by omega)
    have := Int.lt_tmod_of_pos n (b := 4) (by omega)
    omega
  go_enter Tryz.func51, Tryz.ntmps51
  go_wp2_with fail
  all_goals (go_ret; rw [← hq] at *)
  · exact ⟨(q + 3 + 1).toNat, by rw [Int.toNat_of_nonneg (by omega)]; rfl, by omega, rfl⟩
  · exact ⟨q.toNat, by rw [Int.toNat_of_nonneg (by omega)]; rfl, by omega, rfl⟩
set_option maxRecDepth 100000 in
set_option maxHeartbeats 4000000 in
theorem same_yes {w : World} {a b : Option Addr} {L : List Nat} {n c d : Nat} (ha : ∀ i, i < n → ∃ g, a = some ⟨g, 0, none⟩ ∧ g < w.heap.size ∧ w.cell? ⟨g, i, none⟩ = some (.int .u8 ((L.getD i 0 : Nat) : Int))) (hb : ∀ i, i < n → ∃ g, b = some ⟨g, 0, none⟩ ∧ g < w.heap.size ∧ w.cell? ⟨g, i, none⟩ = some (.int .u8 ((L.getD i 0 : Nat) : Int))) (hc : n ≤ c ∧ c ≤ 9223372036854775807) (hd : n ≤ d ∧ d ≤ 9223372036854775807) :
    Calls Tryz.prog 12 #[.slice a n c, .slice b n d] w fun e w' => e = .returned (.bool true) ∧ Below w.heap.size w w' := by
  have HA : Hid (∀ W, Below w.heap.size w W → ∀ i, i < n → ∃ g, a = some ⟨g, 0, none⟩ ∧ W.cell? ⟨g, i, none⟩ = some (.int .u8 ((L.getD i 0 : Nat) : Int))) := fun W hW i hi => by
    obtain ⟨g, e, h1, h2⟩ := ha i hi
    exact ⟨g, e, (hW.cell (p := ⟨g, i, none⟩) h1).trans h2⟩
  have HB : Hid (∀ W, Below w.heap.size w W → ∀ i, i < n → ∃ g, b = some ⟨g, 0, none⟩ ∧ W.cell? ⟨g, i, none⟩ = some (.int .u8 ((L.getD i 0 : Nat) : Int))) := fun W hW i hi => by
    obtain ⟨g, e, h1, h2⟩ := hb i hi
    exact ⟨g, e, (hW.cell (p := ⟨g, i, none⟩) h1).trans h2⟩
  have hbig : n ≤ 9223372036854775807 := by omega
  obtain ⟨hc1, hc2⟩ := hc
  obtain ⟨hd1, hd2⟩ := hd
  clear ha hb
  go_enter Tryz.func12, Tryz.ntmps12
  go_wp2_with fail
  go_loopw [5] (fun x wr => ∃ (i : Nat), i ≤ n ∧ x = .int .i64 (i : Int) ∧ Hid (Below w.heap.size w wr)) (fun x _ => match x with | .int _ z => n - z.toNat | _ => 0)
  case atStart => exact ⟨0, by omega, rfl, Below.refl _ _⟩
  case round =>
    obtain ⟨i, hi, rfl, HK⟩ := hrel
    by_cases hlt : i < n
    · obtain ⟨g, rfl, h1⟩ := HA.out wr HK.out i hlt
      obtain ⟨g', rfl, h2⟩ := HB.out wr HK.out i hlt
      generalize L.getD i 0 = z at h1 h2
      go_wp2_with fail
      go_region
      go_wp2_with fail
      go_roundw
      case rel => exact ⟨i + 1, by omega, by go_num, HK.out.drew⟩
      case measure => simp; omega
    · obtain rfl : i = n := by omega
      go_wp2_with fail
      go_ret
      exact ⟨rfl, HK.out⟩
theorem neqF (w : World) (a b : Int) : (binOp .neq 57 (.agg #[.int .i64 a, .int .u64 b]) (.agg #[.int .i64 a, .int .u64 b])).run Tryz.prog w = .ok (.bool false) w := by
  have u1 := Tryz.underlying55
  have a1 := Tryz.isAgg55
  have z1 := Tryz.sizeOf55
  have u := Tryz.underlying34
  have a2 := Tryz.isAgg34
  have z := Tryz.sizeOf34
  have hS : Tryz.prog.underlying 57 = some (.struct (Tryz.prog.fieldsOf 57)) := by kernel_rfl
  have hp : Tryz.prog.stoodInHeld 57 = false := by kernel_rfl
  rw [run_neq_struct, show (10000 : Nat) = 9999 + 1 from rfl, run_equalIn_agg w 9999 57 _ _ hS hp]
  simp only [Program.fieldsOf, Tryz.underlying57]
  go_simp
theorem four_cells (w : World) (q : Nat) (hq : q ≤ 3) : ∃ k : Nat, Wide k ∧ (w.alloc (Obj.cells #[.int .i64 1, .int .i64 2, .int .i64 4, .int .i64 8] 3)).cell? ⟨w.heap.size, q, none⟩ = some (.int .i64 (k : Int)) := by
  have hc := cell_of_row (w.alloc (Obj.cells #[.int .i64 1, .int .i64 2, .int .i64 4, .int .i64 8] 3)) w.heap.size q _ _ _ (heap_alloc_new w _)
  rcases (by omega : q = 0 ∨ q = 1 ∨ q = 2 ∨ q = 3) with rfl | rfl | rfl | rfl
  · exact ⟨1, .inl rfl, hc⟩
  · exact ⟨2, .inr (.inl rfl), hc⟩
  · exact ⟨4, .inr (.inr (.inl rfl)), hc⟩
  · exact ⟨8, .inr (.inr (.inr rfl)), hc⟩
end Go.Proofs.YtdkhhofgfbnmkaaGreat
