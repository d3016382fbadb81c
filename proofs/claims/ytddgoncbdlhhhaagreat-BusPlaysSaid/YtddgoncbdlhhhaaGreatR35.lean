import Derived.Test.YtddgoncbdlhhhaaGreatR33
import Derived.Test.YtddgoncbdlhhhaaGreatR34
import Derived.Deep.RegionHeld3
/- BusPlays: a box of the law's own is written. Own work. -/
namespace Go.Proofs.YtddgoncbdlhhhaaGreat
open Go.RowKit Go.Maps Go.Proofs.YtddgoncbdlhhhaaGreat.Sp Wk
/-- tags of the law's own boxes -/
def Tb (t : TypeId) : Prop := t = 71 ∨ t = 75 ∨ t = 24 ∨ t = 131
section
variable {w0 w w' : World} {bb R : Nat} {vr vd : Value} {rs ds : List Sp} {col : Nat → Nat} {gs : List (Nat × Nat × Nat)} {bs : List BSt} {vs : List VSt} {H : List (Value × List Nat)} {G : List (Value × List Sp)} {sv lv wv : Value} {hd : Int} {lr wr : Value} {hd2 : Int} {E : List Ent} {F : List EntG} {pb pv : List Ps} {b : Nat} {c : Array Value} {t : TypeId}
theorem tb_ne (ht : Tb t) : t ≠ 110 ∧ t ≠ 168 ∧ t ≠ 68 ∧ t ≠ 89 ∧ t ≠ 5 ∧ t ≠ 48 ∧ t ≠ 27 ∧ t ≠ 22 ∧ t ≠ 35 ∧ t ≠ 39 ∧ t ≠ 55 := by
  rcases ht with rfl | rfl | rfl | rfl <;> decide
theorem AlI.box (h : AlI w0 w bb R vr vd rs ds col gs bs vs H G sv lv wv hd lr wr hd2 E F) (hb : w.heap[b]? = some (.cells c t (0, 0))) (ht : Tb t) (hbb : bb ≤ b) (k : Keeps (fun j => j = b) w w') : AlI w0 w' bb R vr vd rs ds col gs bs vs H G sv lv wv hd lr wr hd2 E F := by
  obtain ⟨t1, t2, t3, t4, t5, t6, t7, t8, t9, t10, t11⟩ := tb_ne ht
  have tg : ∀ (j : Nat) (cur : Array Value) (t' : TypeId) (fr : Nat × Nat), w.heap[j]? = some (.cells cur t' fr) → t ≠ t' → ¬ j = b := fun j cur t' fr hj hne e => by
    subst e
    rw [hb] at hj
    cases hj
    exact hne rfl
  have zt : ∀ j, Zt w j → ¬ j = b := fun j hj e => by
    subst e
    rcases hj _ _ _ hb with q | q | q | q | q
    · exact t1 q
    · exact t2 q
    · exact t3 q
    · exact t4 q
    · exact t5 q
  have hR : ¬ R = b := tg R _ _ _ h.bk.blk t6
  refine ⟨h.below.trans (k.below h.below.size (fun j _ e => ?_)), h.bbl, fun i g m v e => ?_, fun i b' e => ?_, fun i v e => ?_, h.lb, h.lf, h.bk.keepsW k hR (fun j cur hj => tg j cur _ _ hj t7) (fun j hj => ?_), h.bg.keepsW k hR (fun j cur hj => tg j cur _ _ hj t8) (fun j hj => ?_), h.e4, h.ce, h.srow.keeps k (fun j e => ?_), fun x hx => ?_, fun x hx => ?_, h.gn⟩
  · have := h.bbl
    omega
  · have := h.sg i g m v e
    exact (k.block g (Array.getElem?_eq_some_iff.1 this).1 (tg g _ _ _ this t10)).trans this
  · exact Mac.keepsW (h.bus i b' e) k (fun j hj => zt j ((h.bus i b' e).zt hj)) (fun j _ q e => by omega) (fun j cur hj => tg j cur _ _ hj t11) (fun _ _ => rfl)
  · exact (h.rf i v e).keepsW k (fun j hj => zt j ((h.rf i v e).zt hj)) (fun _ _ => rfl)
  · obtain ⟨cur, q⟩ := h.bk.tags j hj
    exact tg j cur _ _ q t5
  · obtain ⟨cur, q⟩ := h.bg.tags j hj
    exact tg j cur _ _ q t11
  · obtain ⟨cur, q⟩ := h.srow.tag j e
    exact tg j cur _ _ q t9
  · obtain ⟨h1, h2⟩ := h.hh x hx
    refine ⟨h1.keeps k (fun j e => ?_), h2⟩
    obtain ⟨cur, q⟩ := h1.tagB j e
    exact tg j cur _ _ q t5
  · obtain ⟨h1, h2⟩ := h.gg x hx
    refine ⟨h1.keeps k (fun j e => ?_), h2⟩
    obtain ⟨cur, q⟩ := h1.tag j e
    exact tg j cur _ _ q t11
theorem Al.box (h : Al w0 w bb R vr vd rs ds gs pb pv H G) (hb : w.heap[b]? = some (.cells c t (0, 0))) (ht : Tb t) (hbb : R ≤ b) (k : Keeps (fun j => j = b) w w') : Al w0 w' bb R vr vd rs ds gs pb pv H G := by
  obtain ⟨col, bs, vs, sv, lv, wv, hd, lr, wr, hd2, E, F, h, e1, e2⟩ := h
  exact ⟨col, bs, vs, sv, lv, wv, hd, lr, wr, hd2, E, F, h.box hb ht (Nat.le_trans h.bbl.2 hbb) k, e1, e2⟩
end
end Go.Proofs.YtddgoncbdlhhhaaGreat
/- BusPlays: what the steps share. Own work. -/
namespace Go.Proofs.YtddgoncbdlhhhaaGreat
open Go.RowKit Go.Maps Go.Proofs.YtddgoncbdlhhhaaGreat.Sp Wk
set_option maxRecDepth 100000 in
set_option maxHeartbeats 2000000 in
theorem within_1 {n : Int} (w : World) : Calls Tryz.prog 17 #[.int .i64 n, .int .i64 0, .int .i64 0] w fun e w' => ∃ r : Nat, e = .returned (.int .i64 (r : Int)) ∧ r < 1 ∧ w' = w := by
  go_enter Tryz.func17, Tryz.ntmps17
  go_wp2_with fail
  go_ret
  exact ⟨0, rfl, by omega, rfl⟩
set_option maxRecDepth 100000 in
set_option maxHeartbeats 2000000 in
theorem within_2 {n : Int} (w : World) : Calls Tryz.prog 17 #[.int .i64 n, .int .i64 0, .int .i64 1] w fun e w' => ∃ r : Nat, e = .returned (.int .i64 (r : Int)) ∧ r < 2 ∧ w' = w := by
  obtain ⟨q, hq⟩ : ∃ q, q = n.tmod 2 := ⟨_, rfl⟩
  have hq1 : -2 < q ∧ q < 2 := by
    have := Int.tmod_lt_of_pos n (b := 2) (by omega)
    have := Int.lt_tmod_of_pos n (b := 2) (by omega)
    omega
  go_enter Tryz.func17, Tryz.ntmps17
  go_wp2_with fail
  all_goals (go_ret; rw [← hq] at *)
  · exact ⟨(q + 1 + 1).toNat, by rw [Int.toNat_of_nonneg (by omega)]; rfl, by omega, rfl⟩
  · exact ⟨q.toNat, by rw [Int.toNat_of_nonneg (by omega)]; rfl, by omega, rfl⟩
set_option maxRecDepth 100000 in
set_option maxHeartbeats 2000000 in
theorem within_3 {n : Int} (w : World) : Calls Tryz.prog 17 #[.int .i64 n, .int .i64 0, .int .i64 2] w fun e w' => ∃ r : Nat, e = .returned (.int .i64 (r : Int)) ∧ r < 3 ∧ w' = w := by
  obtain ⟨q, hq⟩ : ∃ q, q = n.tmod 3 := ⟨_, rfl⟩
  have hq1 : -3 < q ∧ q < 3 := by
    have := Int.tmod_lt_of_pos n (b := 3) (by omega)
    have := Int.lt_tmod_of_pos n (b := 3) (by omega)
    omega
  go_enter Tryz.func17, Tryz.ntmps17
  go_wp2_with fail
  all_goals (go_ret; rw [← hq] at *)
  · exact ⟨(q + 2 + 1).toNat, by rw [Int.toNat_of_nonneg (by omega)]; rfl, by omega, rfl⟩
  · exact ⟨q.toNat, by rw [Int.toNat_of_nonneg (by omega)]; rfl, by omega, rfl⟩
set_option maxRecDepth 100000 in
set_option maxHeartbeats 2000000 in
theorem within_4 {n : Int} (w : World) : Calls Tryz.prog 17 #[.int .i64 n, .int .i64 0, .int .i64 3] w fun e w' => ∃ r : Nat, e = .returned (.int .i64 (r : Int)) ∧ r < 4 ∧ w' = w := by
  obtain ⟨q, hq⟩ : ∃ q, q = n.tmod 4 := ⟨_, rfl⟩
  have hq1 : -4 < q ∧ q < 4 := by
    have := Int.tmod_lt_of_pos n (b := 4) (by omega)
    have := Int.lt_tmod_of_pos n (b := 4) (by omega)
    omega
  go_enter Tryz.func17, Tryz.ntmps17
  go_wp2_with fail
  all_goals (go_ret; rw [← hq] at *)
  · exact ⟨(q + 3 + 1).toNat, by rw [Int.toNat_of_nonneg (by omega)]; rfl, by omega, rfl⟩
  · exact ⟨q.toNat, by rw [Int.toNat_of_nonneg (by omega)]; rfl, by omega, rfl⟩
set_option maxRecDepth 100000 in
set_option maxHeartbeats 2000000 in
theorem within_5 {n : Int} (w : World) : Calls Tryz.prog 17 #[.int .i64 n, .int .i64 0, .int .i64 4] w fun e w' => ∃ r : Nat, e = .returned (.int .i64 (r : Int)) ∧ r < 5 ∧ w' = w := by
  obtain ⟨q, hq⟩ : ∃ q, q = n.tmod 5 := ⟨_, rfl⟩
  have hq1 : -5 < q ∧ q < 5 := by
    have := Int.tmod_lt_of_pos n (b := 5) (by omega)
    have := Int.lt_tmod_of_pos n (b := 5) (by omega)
    omega
  go_enter Tryz.func17, Tryz.ntmps17
  go_wp2_with fail
  all_goals (go_ret; rw [← hq] at *)
  · exact ⟨(q + 4 + 1).toNat, by rw [Int.toNat_of_nonneg (by omega)]; rfl, by omega, rfl⟩
  · exact ⟨q.toNat, by rw [Int.toNat_of_nonneg (by omega)]; rfl, by omega, rfl⟩
set_option maxRecDepth 100000 in
set_option maxHeartbeats 2000000 in
theorem within_6 {n : Int} (w : World) : Calls Tryz.prog 17 #[.int .i64 n, .int .i64 0, .int .i64 5] w fun e w' => ∃ r : Nat, e = .returned (.int .i64 (r : Int)) ∧ r < 6 ∧ w' = w := by
  obtain ⟨q, hq⟩ : ∃ q, q = n.tmod 6 := ⟨_, rfl⟩
  have hq1 : -6 < q ∧ q < 6 := by
    have := Int.tmod_lt_of_pos n (b := 6) (by omega)
    have := Int.lt_tmod_of_pos n (b := 6) (by omega)
    omega
  go_enter Tryz.func17, Tryz.ntmps17
  go_wp2_with fail
  all_goals (go_ret; rw [← hq] at *)
  · exact ⟨(q + 5 + 1).toNat, by rw [Int.toNat_of_nonneg (by omega)]; rfl, by omega, rfl⟩
  · exact ⟨q.toNat, by rw [Int.toNat_of_nonneg (by omega)]; rfl, by omega, rfl⟩
set_option maxRecDepth 100000 in
set_option maxHeartbeats 2000000 in
theorem within_7 {n : Int} (w : World) : Calls Tryz.prog 17 #[.int .i64 n, .int .i64 0, .int .i64 6] w fun e w' => ∃ r : Nat, e = .returned (.int .i64 (r : Int)) ∧ r < 7 ∧ w' = w := by
  obtain ⟨q, hq⟩ : ∃ q, q = n.tmod 7 := ⟨_, rfl⟩
  have hq1 : -7 < q ∧ q < 7 := by
    have := Int.tmod_lt_of_pos n (b := 7) (by omega)
    have := Int.lt_tmod_of_pos n (b := 7) (by omega)
    omega
  go_enter Tryz.func17, Tryz.ntmps17
  go_wp2_with fail
  all_goals (go_ret; rw [← hq] at *)
  · exact ⟨(q + 6 + 1).toNat, by rw [Int.toNat_of_nonneg (by omega)]; rfl, by omega, rfl⟩
  · exact ⟨q.toNat, by rw [Int.toNat_of_nonneg (by omega)]; rfl, by omega, rfl⟩
set_option maxRecDepth 100000 in
set_option maxHeartbeats 2000000 in
theorem within_8 {n : Int} (w : World) : Calls Tryz.prog 17 #[.int .i64 n, .int .i64 0, .int .i64 7] w fun e w' => ∃ r : Nat, e = .returned (.int .i64 (r : Int)) ∧ r < 8 ∧ w' = w := by
  obtain ⟨q, hq⟩ : ∃ q, q = n.tmod 8 := ⟨_, rfl⟩
  have hq1 : -8 < q ∧ q < 8 := by
    have := Int.tmod_lt_of_pos n (b := 8) (by omega)
    have := Int.lt_tmod_of_pos n (b := 8) (by omega)
    omega
  go_enter Tryz.func17, Tryz.ntmps17
  go_wp2_with fail
  all_goals (go_ret; rw [← hq] at *)
  · exact ⟨(q + 7 + 1).toNat, by rw [Int.toNat_of_nonneg (by omega)]; rfl, by omega, rfl⟩
  · exact ⟨q.toNat, by rw [Int.toNat_of_nonneg (by omega)]; rfl, by omega, rfl⟩
theorem within_n {n : Int} {N : Nat} (h0 : 0 < N) (h8 : N ≤ 8) (w : World) : Calls Tryz.prog 17 #[.int .i64 n, .int .i64 0, .int .i64 ((N : Int) - 1)] w fun e w' => ∃ r : Nat, e = .returned (.int .i64 (r : Int)) ∧ r < N ∧ w' = w := by
  obtain rfl | rfl | rfl | rfl | rfl | rfl | rfl | rfl : N = 1 ∨ N = 2 ∨ N = 3 ∨ N = 4 ∨ N = 5 ∨ N = 6 ∨ N = 7 ∨ N = 8 := by omega
  · exact within_1 w
  · exact within_2 w
  · exact within_3 w
  · exact within_4 w
  · exact within_5 w
  · exact within_6 w
  · exact within_7 w
  · exact within_8 w
/-- a step that is handed on -/
def OpAt (w : World) (g : Nat) (kd who : Int) (a : Nat) (n : Int) (val : Nat) (pa : Option Addr) (pn pc : Nat) : Prop := w.heap[g]? = some (.cells #[.int .i64 kd, .int .i64 who, .int .u64 (a : Int), .int .i64 n, .int .u64 (val : Int), .slice pa pn pc] 29 (0, 0))
theorem OpAt.cells {w : World} {g : Nat} {kd who : Int} {a : Nat} {n : Int} {val : Nat} {pa : Option Addr} {pn pc : Nat} (h : OpAt w g kd who a n val pa pn pc) : w.cell? ⟨g, 0, none⟩ = some (.int .i64 kd) ∧ w.cell? ⟨g, 1, none⟩ = some (.int .i64 who) ∧ w.cell? ⟨g, 2, none⟩ = some (.int .u64 (a : Int)) ∧ w.cell? ⟨g, 3, none⟩ = some (.int .i64 n) ∧ w.cell? ⟨g, 4, none⟩ = some (.int .u64 (val : Int)) ∧ w.cell? ⟨g, 5, none⟩ = some (.slice pa pn pc) := by
  refine ⟨?_, ?_, ?_, ?_, ?_, ?_⟩ <;> rw [cell_of_row _ _ _ _ _ _ h] <;> rfl
theorem OpAt.bt {w w' : World} {g : Nat} {kd who : Int} {a : Nat} {n : Int} {val : Nat} {pa : Option Addr} {pn pc : Nat} (h : OpAt w g kd who a n val pa pn pc) (hb : Bt w w') : OpAt w' g kd who a n val pa pn pc := hb.2 g _ _ _ h (by unfold Fx; decide)
theorem OpAt.new (w : World) (kd who : Int) (a : Nat) (n : Int) (val : Nat) (pa : Option Addr) (pn pc : Nat) : OpAt (w.alloc (Obj.cells #[.int .i64 kd, .int .i64 who, .int .u64 (a : Int), .int .i64 n, .int .u64 (val : Int), .slice pa pn pc] 29)) w.heap.size kd who a n val pa pn pc := heap_alloc_new w _
theorem OpAt.lt {w : World} {g : Nat} {kd who : Int} {a : Nat} {n : Int} {val : Nat} {pa : Option Addr} {pn pc : Nat} (h : OpAt w g kd who a n val pa pn pc) : g < w.heap.size := (Array.getElem?_eq_some_iff.1 h).1
def SeatAt (w : World) (g m v : Nat) : Prop := w.heap[g]? = some (.cells #[.pointer (some ⟨m, 0, none⟩), .pointer (some ⟨v, 0, none⟩)] 39 (0, 0))
theorem SeatAt.cells {w : World} {g m v : Nat} (h : SeatAt w g m v) : w.cell? ⟨g, 0, none⟩ = some (.pointer (some ⟨m, 0, none⟩)) ∧ w.cell? ⟨g, 1, none⟩ = some (.pointer (some ⟨v, 0, none⟩)) := by
  refine ⟨?_, ?_⟩ <;> rw [cell_of_row _ _ _ _ _ _ h] <;> rfl
theorem SeatAt.bt {w w' : World} {g m v : Nat} (h : SeatAt w g m v) (hb : Bt w w') : SeatAt w' g m v := hb.2 g _ _ _ h (by unfold Fx; decide)
theorem SeatAt.lt {w : World} {g m v : Nat} (h : SeatAt w g m v) : g < w.heap.size := (Array.getElem?_eq_some_iff.1 h).1
theorem BoxF.bt {w w' : World} {g : Nat} {x y : Int} (h : BoxF w g x y) (hb : Bt w w') : BoxF w' g x y := hb.2 g _ _ _ h (by unfold Fx; decide)
theorem BoxG.bt {w w' : World} {g : Nat} {x y : Int} (h : BoxG w g x y) (hb : Bt w w') : BoxG w' g x y := hb.2 g _ _ _ h (by unfold Fx; decide)
theorem SeatAt.below {w w' : World} {g m v : Nat} (h : SeatAt w g m v) (hb : Below w.heap.size w w') : SeatAt w' g m v := h.bt (Bt.below hb)
theorem OpAt.below {w w' : World} {g : Nat} {kd who : Int} {a : Nat} {n : Int} {val : Nat} {pa : Option Addr} {pn pc : Nat} (h : OpAt w g kd who a n val pa pn pc) (hb : Below w.heap.size w w') : OpAt w' g kd who a n val pa pn pc := h.bt (Bt.below hb)
section
variable {w0 w : World} {bb R : Nat} {vr vd : Value} {rs ds : List Sp} {gs : List (Nat × Nat × Nat)} {pb pv : List Ps} {H : List (Value × List Nat)} {G : List (Value × List Sp)}
theorem Al.lens (h : Al w0 w bb R vr vd rs ds gs pb pv H G) : pb.length = gs.length ∧ pv.length = gs.length := by
  obtain ⟨col, bs, vs, sv, lv, wv, hd, lr, wr, hd2, E, F, h, rfl, rfl⟩ := h
  have h1 := congrArg List.length h.lb
  have h2 := congrArg List.length h.lf
  simp only [List.length_map] at h1 h2 ⊢
  exact ⟨h1.symm, h2.symm⟩
theorem Al.row (h : Al w0 w bb R vr vd rs ds gs pb pv H G) (h0 : 0 < gs.length) : ∃ gb off cap, w.cell? ⟨R, 0, none⟩ = some (.slice (some ⟨gb, off, none⟩) gs.length cap) ∧ gs.length ≤ cap ∧ ∀ (j g m v : Nat), gs[j]? = some (g, m, v) → w.cell? ⟨gb, off + j, none⟩ = some (.pointer (some ⟨g, 0, none⟩)) := by
  obtain ⟨col, bs, vs, sv, lv, wv, hd, lr, wr, hd2, E, F, h, rfl, rfl⟩ := h
  obtain ⟨gb, off, cap, e, hc⟩ := h.srow.some_of (by simpa using h0)
  rw [List.length_map] at e hc
  refine ⟨gb, off, cap, ?_, hc, fun j g m v hj => ?_⟩
  · rw [cell_of_row _ _ _ _ _ _ h.bk.blk, ← e]
    rfl
  · have hl := (List.getElem?_eq_some_iff.1 hj).1
    have hs := h.srow
    rw [e] at hs
    have := hs.cell j (by rw [List.length_map]; exact hl)
    rw [this, List.getElem_map, (List.getElem?_eq_some_iff.1 hj).2]
theorem Al.R_lt (h : Al w0 w bb R vr vd rs ds gs pb pv H G) : R < w.heap.size := by
  obtain ⟨col, bs, vs, sv, lv, wv, hd, lr, wr, hd2, E, F, h, _⟩ := h
  exact h.R_lt
end
/-- behind a step: true; both sides are one again -/
def StP (w0 : World) (bb R : Nat) (vr vd : Value) (rs ds : List Sp) (k : Nat) (e : Ending) (w' : World) : Prop :=
  e = .returned (.bool true) ∧ ∃ gs ps, Hid (Al w0 w' bb R vr vd rs ds gs ps ps [] []) ∧ 0 < gs.length ∧ gs.length ≤ 8 ∧ ∀ p ∈ ps, Ps.le p k
theorem SeatAt.keep1 {w w' : World} {g m v b : Nat} (h : SeatAt w g m v) (k : Keeps (fun j => j = b) w w') (hn : g ≠ b) : SeatAt w' g m v := (k.block g h.lt hn).trans h
theorem OpAt.keep1 {w w' : World} {g b : Nat} {kd who : Int} {a : Nat} {n : Int} {val : Nat} {pa : Option Addr} {pn pc : Nat} (h : OpAt w g kd who a n val pa pn pc) (k : Keeps (fun j => j = b) w w') (hn : g ≠ b) : OpAt w' g kd who a n val pa pn pc := (k.block g h.lt hn).trans h
theorem Bt.trans_box {w w1 w' : World} {b : Nat} (h : Bt w w1) (k : Keeps (fun j => j = b) w1 w') (hb : w.heap.size ≤ b := by exact Nat.le_refl _) : Bt w w' := ⟨Nat.le_trans h.1 k.size, fun g c t fr hc ht => by
  have hl := (Array.getElem?_eq_some_iff.1 hc).1
  have h1 := h.2 g c t fr hc ht
  exact (k.block g (Array.getElem?_eq_some_iff.1 h1).1 (by show ¬ g = b; omega)).trans h1⟩
theorem le_set {ps : List Ps} {i k k' : Nat} {q : Ps} (h : ∀ p ∈ ps, Ps.le p k) (hk : k ≤ k') (hq : q.le k') : ∀ p ∈ ps.set i q, Ps.le p k' := fun p hp => by
  rcases List.mem_or_eq_of_mem_set hp with h1 | rfl
  · exact (h p h1).mono hk
  · exact hq
end Go.Proofs.YtddgoncbdlhhhaaGreat
/- BusPlays: a step: Read, twice (written by parts/gen_bpst.py). Own work. -/
namespace Go.Proofs.YtddgoncbdlhhhaaGreat
open Go.RowKit Go.Maps Go.Proofs.YtddgoncbdlhhhaaGreat.Sp Wk
set_option linter.unusedVariables false
/-- behind a part of a step -/
def SubP (w0 : World) (bb R : Nat) (vr vd : Value) (rs ds : List Sp) (gs : List (Nat × Nat × Nat)) (k : Nat) (e : Ending) (w' : World) : Prop :=
  e = .returned (.bool true) ∧ ∃ ps, Hid (Al w0 w' bb R vr vd rs ds gs ps ps [] []) ∧ ∀ p ∈ ps, Ps.le p k
theorem sl_off {w : World} {v : Value} {x : Obj} (h : ∀ k, v.ownBlock = some k → (w.alloc x).drew.heap.size ≤ k) : ∀ k, v.ownBlock = some k → ¬ k = w.heap.size := fun k e e2 => by
  have := h k e
  have e3 : (w.alloc x).drew.heap.size = w.heap.size + 1 := by show (w.alloc x).heap.size = _; simp
  omega
theorem get_set {ps : List Ps} {i : Nat} {p q : Ps} (h : ps[i]? = some p) : (ps.set i q)[i]? = some q := by
  rw [List.getElem?_set, if_pos rfl, if_pos (List.getElem?_eq_some_iff.1 h).1]
set_option maxRecDepth 100000 in
set_option maxHeartbeats 8000000 in
theorem reads_any {w0 w : World} {bb R : Nat} {vr vd : Value} {rs ds : List Sp} {gs : List (Nat × Nat × Nat)} {ps : List Ps} {k i g m v : Nat} {p : Ps} {kd who n : Int} {a val : Nat} {pa : Option Addr} {pn pc : Nat} (hB : BusOk w0 vr vd rs ds) (h : Al w0 w bb R vr vd rs ds gs ps ps [] []) (hgi : gs[i]? = some (g, m, v)) (hpi : ps[i]? = some p) (hps : ∀ p ∈ ps, Ps.le p k) (hk : k ≤ 4000000000000000000) (ha : a ≤ 18446744073709551615) (hn : n ≤ 9223372036854775807) :
    Calls Tryz.prog 25 #[.pointer (some ⟨R, 0, none⟩), .pointer (some ⟨g, 0, none⟩), .agg #[.int .i64 kd, .int .i64 who, .int .u64 (a : Int), .int .i64 n, .int .u64 (val : Int), .slice pa pn pc]] w (SubP w0 bb R vr vd rs ds gs (k + 2)) := by
  obtain ⟨W1, hW1⟩ : ∃ W1, w.alloc (Obj.cells #[.int .i64 kd, .int .i64 who, .int .u64 (a : Int), .int .i64 n, .int .u64 (val : Int), .slice pa pn pc] 29) = W1 := ⟨_, rfl⟩
  have hb1 : Below w.heap.size w W1 := hW1 ▸ (Below.refl _ _).alloc (Nat.le_refl _) _
  have HO1 : Hid (OpAt W1 w.heap.size kd who a n val pa pn pc) := hW1 ▸ OpAt.new w kd who a n val pa pn pc
  have HA1 : Hid (Al w0 W1 bb R vr vd rs ds gs ps ps [] []) := (h.low hb1).1
  have HS1 : Hid (SeatAt W1 g m v) := HA1.out.seat hgi
  have HPs : Hid (∀ p ∈ ps, Ps.le p k) := hps
  have HGi := Lib.hid hgi
  have HPi := Lib.hid hpi
  clear h hps hb1 hgi hpi
  go_enter Tryz.func25, Tryz.ntmps25
  go_wp2_with fail
  try rw [hW1]
  clear hW1
  go_loopw [7] (fun iv wr => ∃ j : Nat, j ≤ 2 ∧ iv = .int .i64 (j : Int) ∧ Hid (∃ q, Al w0 wr bb R vr vd rs ds gs (ps.set i q) (ps.set i q) [] [] ∧ Ps.le q (k + j) ∧ OpAt wr w.heap.size kd who a n val pa pn pc ∧ SeatAt wr g m v)) (fun iv _ => 2 - (intOf iv).toNat)
  case atStart =>
    refine ⟨0, by omega, rfl, p, ?_, HPs.out p (List.mem_of_getElem? HPi.out), HO1.out, HS1.out⟩
    rw [set_same HPi.out]
    exact HA1.out
  case round =>
    obtain ⟨j, hj, rfl, HI⟩ := hrel
    obtain ⟨p1, ha1, hp1, ho1, hs1⟩ := HI.out
    have HDA := Lib.hid ha1
    have HDO := Lib.hid ho1
    have HDS := Lib.hid hs1
    have HPk : Hid (Ps.le p1 (k + j)) := hp1
    clear HI ha1 hp1 ho1 hs1 HO1 HA1 HS1
    by_cases hlt : j < 2
    · have ji : (j : Int) < 2 := by omega
      have hw1 : IntKind.i64.wrap ((j : Int) + 1) = ((j + 1 : Nat) : Int) := by rw [IntKind.wrap_i64]; omega
      have HQ : Hid ((rdP (rs ++ ds) p1 a n).le (k + (j + 1))) := rdP_le (LL := rs ++ ds) (a := a) (n := n) HPk.out
      have HP1 : Hid ((ps.set i p1)[i]? = some p1) := get_set HPi.out
      have HC1 : Hid (∀ W, Al w0 W bb R vr vd rs ds gs (ps.set i p1) (ps.set i p1) [] [] → Calls Tryz.prog 33 #[.pointer (some ⟨m, 0, none⟩), .int .u64 (a : Int), .int .i64 n] W fun e w' => ∃ la ln lc, e = .returned (.tuple #[.slice la ln lc, .agg #[.int .i64 (wyC (rs ++ ds) a n), .int .u64 (adC (rs ++ ds) a n)]]) ∧ Hid (Al w0 w' bb R vr vd rs ds gs (ps.set i (rdP (rs ++ ds) p1 a n)) (ps.set i p1) [(.slice la ln lc, rdL (rs ++ ds) p1 a n)] []) ∧ Hid (Bt W w')) := fun W hW => by
        have := c_read hW HGi.out HP1.out ha (HPk.out.mono (by omega)) hn
        rw [List.set_set] at this
        exact this
      have HC2 : Hid (∀ la ln lc W, Al w0 W bb R vr vd rs ds gs (ps.set i (rdP (rs ++ ds) p1 a n)) (ps.set i p1) [(.slice la ln lc, rdL (rs ++ ds) p1 a n)] [] → Calls Tryz.prog 55 #[.pointer (some ⟨v, 0, none⟩), .int .u64 (a : Int), .int .i64 n] W fun e w' => ∃ ka kn kc, e = .returned (.tuple #[.slice ka kn kc, .agg #[.int .i64 (wyC (rs ++ ds) a n), .int .u64 (adC (rs ++ ds) a n)]]) ∧ Hid (Al w0 w' bb R vr vd rs ds gs (ps.set i (rdP (rs ++ ds) p1 a n)) (ps.set i (rdP (rs ++ ds) p1 a n)) [(.slice la ln lc, rdL (rs ++ ds) p1 a n)] []) ∧ Hid (Bt W w') ∧ Hid (Sl w' (.slice ka kn kc) (rdL (rs ++ ds) p1 a n) ∧ ∀ k, (Value.slice ka kn kc).ownBlock = some k → W.heap.size ≤ k)) := fun la ln lc W hW => by
        have := d_read hB hW HGi.out HP1.out ha (HPk.out.mono (by omega)) hn
        rw [List.set_set] at this
        exact this
      have HSm : Hid (∀ a b W, Calls Tryz.prog 20 #[.agg #[.int .i64 a, .int .u64 b], .agg #[.int .i64 a, .int .u64 b]] W fun e w' => e = .returned (.bool true) ∧ Below W.heap.size W w') := same_one
      obtain ⟨why, hwhy⟩ : ∃ why : Int, why = wyC (rs ++ ds) a n := ⟨_, rfl⟩
      obtain ⟨xx, hxx⟩ : ∃ xx : Int, xx = adC (rs ++ ds) a n := ⟨_, rfl⟩
      obtain ⟨q, hq⟩ : ∃ q : Ps, q = rdP (rs ++ ds) p1 a n := ⟨_, rfl⟩
      obtain ⟨zs, hzs⟩ : ∃ zs : List Nat, zs = rdL (rs ++ ds) p1 a n := ⟨_, rfl⟩
      rw [← hwhy, ← hxx, ← hq, ← hzs] at HC1 HC2
      rw [← hq] at HQ
      clear hwhy hxx hq hzs
      go_wp2_with fail
      have hgl := HDS.out.lt
      have hol := HDO.out.lt
      have hRl := HDA.out.R_lt
      have hne1 : g ≠ wr.heap.size := Nat.ne_of_lt hgl
      have hne2 : w.heap.size ≠ wr.heap.size := Nat.ne_of_lt hol
      have hbd : Below wr.heap.size wr wr.drew := (Below.refl _ _).drew
      have hbx : Below wr.heap.size wr (wr.alloc (Obj.cells #[.int .i64 0, .int .u64 0] 71)).drew := ((Below.refl _ _).alloc (Nat.le_refl _) _).drew
      have HA0 := Lib.hid (HDA.out.low hbd).1
      have HO0 := Lib.hid (HDO.out.below hbd)
      have HS0 := Lib.hid (HDS.out.below hbd)
      have HAb := Lib.hid (HDA.out.low hbx).1
      have HOb := Lib.hid (HDO.out.below hbx)
      have HSb := Lib.hid (HDS.out.below hbx)
      have HFb : Hid (BoxF (wr.alloc (Obj.cells #[.int .i64 0, .int .u64 0] 71)).drew wr.heap.size 0 0) := BoxF.new wr 0 0
      obtain ⟨s0, s1⟩ := HDS.out.cells
      obtain ⟨_, _, o2, o3, _⟩ := HDO.out.cells
      have HSz := Lib.hid (show wr.drew.cell? ⟨g, 0, none⟩ = some (.pointer (some ⟨m, 0, none⟩)) ∧ wr.drew.cell? ⟨w.heap.size, 2, none⟩ = some (.int .u64 (a : Int)) ∧ wr.drew.cell? ⟨w.heap.size, 3, none⟩ = some (.int .i64 n) from ⟨s0, o2, o3⟩)
      clear hbd hbx
      go_cut [8, 9] (fun y z wx => ∃ la ln lc b1, y = .slice la ln lc ∧ z = .pointer (some ⟨b1, 0, none⟩) ∧ Hid (BoxF wx b1 why xx ∧ Al w0 wx bb R vr vd rs ds gs (ps.set i q) (ps.set i p1) [(.slice la ln lc, zs)] [] ∧ OpAt wx w.heap.size kd who a n val pa pn pc ∧ SeatAt wx g m v ∧ wr.heap.size ≤ b1 ∧ Bt wr wx))
      case first =>
        go_region_held3 (fun wx => wx.cell? ⟨g, 0, none⟩ = some (.pointer (some ⟨m, 0, none⟩)) ∧ wx.cell? ⟨w.heap.size, 2, none⟩ = some (.int .u64 (a : Int)) ∧ wx.cell? ⟨w.heap.size, 3, none⟩ = some (.int .i64 n)) (first | exact HS9.out | exact HS1.out | exact HSz.out | go_keep) (first | (go_at_call 33; refine (HC1.out _ HA0.out).mono ?_; rintro e x1 ⟨la, ln, lc, rfl, HAx, HBx⟩; have HOx := Lib.hid (HO0.out.bt HBx.out); have HSx := Lib.hid (HS0.out.bt HBx.out); have HBy := Lib.hid (show Bt wr x1 from HBx.out); have HS1 := Lib.hid (show x1.cell? ⟨g, 0, none⟩ = some (.pointer (some ⟨m, 0, none⟩)) ∧ x1.cell? ⟨w.heap.size, 2, none⟩ = some (.int .u64 (a : Int)) ∧ x1.cell? ⟨w.heap.size, 3, none⟩ = some (.int .i64 n) from ⟨HSx.out.cells.1, HOx.out.cells.2.2.1, HOx.out.cells.2.2.2.1⟩); have hgx := HSx.out.lt; have hox := HOx.out.lt; obtain ⟨y0, y2, y3⟩ := HS1.out) | (go_at_call 33; refine (HC1.out _ HAb.out).mono ?_; rintro e x1 ⟨la, ln, lc, rfl, HAx, HBx⟩; have HOx := Lib.hid (HOb.out.bt HBx.out); have HSx := Lib.hid (HSb.out.bt HBx.out); have HFx := Lib.hid (HFb.out.bt HBx.out); have HBy := Lib.hid (((Bt.below ((Below.refl _ wr).alloc (Nat.le_refl _) _)).trans HBx.out : Bt wr x1)); obtain ⟨f0, f1, f2, f3⟩ := HFx.out.cells; have hfx := HFx.out.lt; have HS9 := Lib.hid (show ((x1.setCell ⟨wr.heap.size, 0, none⟩ (.int .i64 why)).setCell ⟨wr.heap.size, 1, none⟩ (.int .u64 xx)).cell? ⟨g, 0, none⟩ = some (.pointer (some ⟨m, 0, none⟩)) ∧ ((x1.setCell ⟨wr.heap.size, 0, none⟩ (.int .i64 why)).setCell ⟨wr.heap.size, 1, none⟩ (.int .u64 xx)).cell? ⟨w.heap.size, 2, none⟩ = some (.int .u64 (a : Int)) ∧ ((x1.setCell ⟨wr.heap.size, 0, none⟩ (.int .i64 why)).setCell ⟨wr.heap.size, 1, none⟩ (.int .u64 xx)).cell? ⟨w.heap.size, 3, none⟩ = some (.int .i64 n) from ⟨(HSx.out.keep1 (Keeps.two x1 wr.heap.size (.int .i64 why) (.int .u64 xx)) hne1).cells.1, (HOx.out.keep1 (Keeps.two x1 wr.heap.size (.int .i64 why) (.int .u64 xx)) hne2).cells.2.2.1, (HOx.out.keep1 (Keeps.two x1 wr.heap.size (.int .i64 why) (.int .u64 xx)) hne2).cells.2.2.2.1⟩); have HS1 := Lib.hid (show x1.cell? ⟨g, 0, none⟩ = some (.pointer (some ⟨m, 0, none⟩)) ∧ x1.cell? ⟨w.heap.size, 2, none⟩ = some (.int .u64 (a : Int)) ∧ x1.cell? ⟨w.heap.size, 3, none⟩ = some (.int .i64 n) from ⟨HSx.out.cells.1, HOx.out.cells.2.2.1, HOx.out.cells.2.2.2.1⟩); have hgx := HSx.out.lt; have hox := HOx.out.lt; obtain ⟨y0, y2, y3⟩ := HS1.out))
        all_goals
          go_wp2_with fail
          go_meet
          first
            | exact ⟨la, ln, lc, _, rfl, rfl, BoxF.new x1 why xx, (HAx.out.low ((Below.refl _ _).alloc (Nat.le_refl _) _)).1, HOx.out.below ((Below.refl _ _).alloc (Nat.le_refl _) _), HSx.out.below ((Below.refl _ _).alloc (Nat.le_refl _) _), HBy.out.1, HBy.out.trans (Bt.below ((Below.refl _ _).alloc (Nat.le_refl _) _))⟩
            | exact ⟨la, ln, lc, _, rfl, rfl, HFx.out.set why xx, HAx.out.box HFx.out (.inl rfl) (Nat.le_of_lt hRl) (Keeps.two x1 wr.heap.size _ _), HOx.out.keep1 (Keeps.two x1 wr.heap.size _ _) hne2, HSx.out.keep1 (Keeps.two x1 wr.heap.size _ _) hne1, Nat.le_refl _, HBy.out.trans_box (Keeps.two x1 wr.heap.size _ _)⟩
      case rest =>
        obtain ⟨la, ln, lc, b1, rfl, rfl, HR⟩ := hcut
        obtain ⟨hf3, ha3, ho3, hs3, hb3, _⟩ := HR.out
        have HEA := Lib.hid ha3
        have HEO := Lib.hid ho3
        have HES := Lib.hid hs3
        have HF3 := Lib.hid hf3
        clear HR hf3 ha3 ho3 hs3 HA0 HO0 HS0 HAb HOb HSb HFb HSz s0 s1 o2 o3 hgl hol hRl hne1 hne2 HC1 hb3
        have HC3 := Lib.hid (HC2.out la ln lc)
        clear HC2
        go_wp2_with fail
        have hgl := HES.out.lt
        have hol := HEO.out.lt
        have hRl := HEA.out.R_lt
        have hne1 : g ≠ wc.heap.size := Nat.ne_of_lt hgl
        have hne2 : w.heap.size ≠ wc.heap.size := Nat.ne_of_lt hol
        have hbd : Below wc.heap.size wc wc.drew := (Below.refl _ _).drew
        have hbx : Below wc.heap.size wc (wc.alloc (Obj.cells #[.int .i64 0, .int .u64 0] 75)).drew := ((Below.refl _ _).alloc (Nat.le_refl _) _).drew
        have HA0 := Lib.hid (HEA.out.low hbd).1
        have HO0 := Lib.hid (HEO.out.below hbd)
        have HS0 := Lib.hid (HES.out.below hbd)
        have HAb := Lib.hid (HEA.out.low hbx).1
        have HOb := Lib.hid (HEO.out.below hbx)
        have HSb := Lib.hid (HES.out.below hbx)
        have HFb : Hid (BoxG (wc.alloc (Obj.cells #[.int .i64 0, .int .u64 0] 75)).drew wc.heap.size 0 0) := BoxG.new wc 0 0
        obtain ⟨s0, s1⟩ := HES.out.cells
        obtain ⟨_, _, o2, o3, _⟩ := HEO.out.cells
        have HSz := Lib.hid (show wc.drew.cell? ⟨g, 1, none⟩ = some (.pointer (some ⟨v, 0, none⟩)) ∧ wc.drew.cell? ⟨w.heap.size, 2, none⟩ = some (.int .u64 (a : Int)) ∧ wc.drew.cell? ⟨w.heap.size, 3, none⟩ = some (.int .i64 n) from ⟨s1, o2, o3⟩)
        clear hbd hbx
        go_cut [10, 11] (fun y z wx => ∃ ka kn kc b1, y = .slice ka kn kc ∧ z = .pointer (some ⟨b1, 0, none⟩) ∧ Hid (BoxG wx b1 why xx ∧ Al w0 wx bb R vr vd rs ds gs (ps.set i q) (ps.set i q) [(.slice la ln lc, zs)] [] ∧ OpAt wx w.heap.size kd who a n val pa pn pc ∧ SeatAt wx g m v ∧ wc.heap.size ≤ b1 ∧ Bt wc wx ∧ Sl wx (.slice ka kn kc) zs))
        case first =>
          go_region_held3 (fun wx => wx.cell? ⟨g, 1, none⟩ = some (.pointer (some ⟨v, 0, none⟩)) ∧ wx.cell? ⟨w.heap.size, 2, none⟩ = some (.int .u64 (a : Int)) ∧ wx.cell? ⟨w.heap.size, 3, none⟩ = some (.int .i64 n)) (first | exact HS9.out | exact HS1.out | exact HSz.out | go_keep) (first | (go_at_call 55; refine (HC3.out _ HA0.out).mono ?_; rintro e x1 ⟨ka, kn, kc, rfl, HAx, HBx, HSlx⟩; have HOx := Lib.hid (HO0.out.bt HBx.out); have HSx := Lib.hid (HS0.out.bt HBx.out); have HBy := Lib.hid (show Bt wc x1 from HBx.out); have HS1 := Lib.hid (show x1.cell? ⟨g, 1, none⟩ = some (.pointer (some ⟨v, 0, none⟩)) ∧ x1.cell? ⟨w.heap.size, 2, none⟩ = some (.int .u64 (a : Int)) ∧ x1.cell? ⟨w.heap.size, 3, none⟩ = some (.int .i64 n) from ⟨HSx.out.cells.2, HOx.out.cells.2.2.1, HOx.out.cells.2.2.2.1⟩); have hgx := HSx.out.lt; have hox := HOx.out.lt; obtain ⟨y0, y2, y3⟩ := HS1.out) | (go_at_call 55; refine (HC3.out _ HAb.out).mono ?_; rintro e x1 ⟨ka, kn, kc, rfl, HAx, HBx, HSlx⟩; have HOx := Lib.hid (HOb.out.bt HBx.out); have HSx := Lib.hid (HSb.out.bt HBx.out); have HFx := Lib.hid (HFb.out.bt HBx.out); have HBy := Lib.hid (((Bt.below ((Below.refl _ wc).alloc (Nat.le_refl _) _)).trans HBx.out : Bt wc x1)); obtain ⟨f0, f1, f2, f3⟩ := HFx.out.cells; have hfx := HFx.out.lt; have HS9 := Lib.hid (show ((x1.setCell ⟨wc.heap.size, 0, none⟩ (.int .i64 why)).setCell ⟨wc.heap.size, 1, none⟩ (.int .u64 xx)).cell? ⟨g, 1, none⟩ = some (.pointer (some ⟨v, 0, none⟩)) ∧ ((x1.setCell ⟨wc.heap.size, 0, none⟩ (.int .i64 why)).setCell ⟨wc.heap.size, 1, none⟩ (.int .u64 xx)).cell? ⟨w.heap.size, 2, none⟩ = some (.int .u64 (a : Int)) ∧ ((x1.setCell ⟨wc.heap.size, 0, none⟩ (.int .i64 why)).setCell ⟨wc.heap.size, 1, none⟩ (.int .u64 xx)).cell? ⟨w.heap.size, 3, none⟩ = some (.int .i64 n) from ⟨(HSx.out.keep1 (Keeps.two x1 wc.heap.size (.int .i64 why) (.int .u64 xx)) hne1).cells.2, (HOx.out.keep1 (Keeps.two x1 wc.heap.size (.int .i64 why) (.int .u64 xx)) hne2).cells.2.2.1, (HOx.out.keep1 (Keeps.two x1 wc.heap.size (.int .i64 why) (.int .u64 xx)) hne2).cells.2.2.2.1⟩); have HS1 := Lib.hid (show x1.cell? ⟨g, 1, none⟩ = some (.pointer (some ⟨v, 0, none⟩)) ∧ x1.cell? ⟨w.heap.size, 2, none⟩ = some (.int .u64 (a : Int)) ∧ x1.cell? ⟨w.heap.size, 3, none⟩ = some (.int .i64 n) from ⟨HSx.out.cells.2, HOx.out.cells.2.2.1, HOx.out.cells.2.2.2.1⟩); have hgx := HSx.out.lt; have hox := HOx.out.lt; obtain ⟨y0, y2, y3⟩ := HS1.out))
          all_goals
            go_wp2_with fail
            go_meet
            first
              | exact ⟨ka, kn, kc, _, rfl, rfl, BoxG.new x1 why xx, (HAx.out.low ((Below.refl _ _).alloc (Nat.le_refl _) _)).1, HOx.out.below ((Below.refl _ _).alloc (Nat.le_refl _) _), HSx.out.below ((Below.refl _ _).alloc (Nat.le_refl _) _), HBy.out.1, HBy.out.trans (Bt.below ((Below.refl _ _).alloc (Nat.le_refl _) _)), HSlx.out.1.below ((Below.refl _ _).alloc (Nat.le_refl _) _)⟩
              | exact ⟨ka, kn, kc, _, rfl, rfl, HFx.out.set why xx, HAx.out.box HFx.out (.inr (.inl rfl)) (Nat.le_of_lt hRl) (Keeps.two x1 wc.heap.size _ _), HOx.out.keep1 (Keeps.two x1 wc.heap.size _ _) hne2, HSx.out.keep1 (Keeps.two x1 wc.heap.size _ _) hne1, Nat.le_refl _, HBy.out.trans_box (Keeps.two x1 wc.heap.size _ _), HSlx.out.1.keeps (Keeps.two x1 wc.heap.size _ _) (sl_off HSlx.out.2)⟩
        case rest =>
          obtain ⟨ka, kn, kc, b2, rfl, rfl, HR⟩ := hcut
          obtain ⟨hg4, ha4, ho4, hs4, hb4, ht4, hsl4⟩ := HR.out
          have hf4 : BoxF _ b1 why xx := HF3.out.bt ht4
          have HA4 := Lib.hid ha4
          have HO4 := Lib.hid ho4
          have HS4 := Lib.hid hs4
          have HSl := Lib.hid hsl4
          obtain ⟨f0, f1, _, _⟩ := hf4.cells
          obtain ⟨e0, e1, _, _⟩ := hg4.cells
          have hRl4 := ha4.R_lt
          clear HR ha4 hg4 ho4 hs4 hsl4 HF3 HA0 HO0 HS0 HAb HOb HSb HFb HSz s0 s1 o2 o3 HC3 ht4
          go_wp2_with fail
          refine (HSm.out _ _ _).mono ?_
          rintro e w5 ⟨rfl, hb5⟩
          have HA5 := Lib.hid (HA4.out.low hb5).1
          have HO5 := Lib.hid (HO4.out.below hb5)
          have HS5 := Lib.hid (HS4.out.below hb5)
          have HSa : Hid (Calls Tryz.prog 34 #[.slice la ln lc, .slice ka kn kc] w5 fun e w' => e = .returned (.bool true) ∧ Below w5.heap.size w5 w') := same_any ((HA5.out.own (List.mem_singleton.2 rfl)).1.sl (HA5.out.own (List.mem_singleton.2 rfl)).2) (HSl.out.below hb5)
          have hRl5 := HA5.out.R_lt
          clear hb5 HA4 HO4 HS4 HSl HSm f0 f1 e0 e1
          go_wp2_with fail
          refine HSa.out.mono ?_
          rintro e w6 ⟨rfl, hb6⟩
          have HA6 := Lib.hid (HA5.out.low hb6).1
          have HO6 := Lib.hid (HO5.out.below hb6)
          have HS6 := Lib.hid (HS5.out.below hb6)
          have HKp := Lib.hid (k_bytes HA6.out)
          clear hb6 HSa HA5 HO5 HS5
          go_wp2_with fail
          refine HKp.out.mono ?_
          rintro e w7 ⟨rfl, HA7, HB7⟩
          have HO7 := Lib.hid (HO6.out.bt HB7.out)
          have HS7 := Lib.hid (HS6.out.bt HB7.out)
          clear HKp HA6 HO6 HS6 HB7
          go_wp2_with fail
          exact ⟨⟨j + 1, by omega, rfl, q, HA7.out, HQ.out, HO7.out, HS7.out⟩, by simp [intOf]; omega⟩
    · go_wp2_with fail
      go_ret
      exact ⟨rfl, ps.set i p1, HDA, le_set HPs.out (by omega) (HPk.out.mono (by omega))⟩
end Go.Proofs.YtddgoncbdlhhhaaGreat
