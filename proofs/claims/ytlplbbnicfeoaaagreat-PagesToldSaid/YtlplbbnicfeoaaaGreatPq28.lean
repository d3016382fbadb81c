import Derived.Test.YtlplbbnicfeoaaaGreatPq27
/- further, of what is told. Own work. -/
namespace Go.Proofs.YtlplbbnicfeoaaaGreat
open Go.RowKit Go.Shelf Wk Lv
attribute [local go_sem] Oper.semAt_some
set_option maxRecDepth 100000 in
set_option maxHeartbeats 4000000 in
/-- further, of all else: it is told -/
theorem further_told (n Bl By l : Nat) (virt : Nat) (lev : Int) (x : Ent) (why : Int) (left pg : Nat) (bk : Bool) (R : World → Prop) (W : World) (hx : x.2.1 = false) (h1 : 1 ≤ left) (h2 : left ≤ 9223372036854775807) (hl : LeftAt W Bl left) (hne : By ≠ Bl) (hy : W.cell? ⟨By, 0, none⟩ = some (.func (.yield l) #[] #[]))
    (hpg : ∀ W, Calls Tryz.prog 49 #[.int .i64 lev] W fun e w' => e = .returned (.int .i64 (pg : Int)) ∧ Below W.heap.size W w')
    (hyd : ∀ W', Keeps (fun k => k = Bl) W W' → LeftAt W' Bl (left - 1) → YieldAt Fence.wide (n - 1) Tryz.prog l #[LfV virt x.1 pg x, .int .i64 why] W' fun e W'' => e = .returned (.bool bk) ∧ LeftAt W'' Bl (left - 1) ∧ R W'') :
    CallsIn Fence.wide n Tryz.prog 50 #[SltV virt lev x why, .pointer (some ⟨Bl, 0, none⟩), .pointer (some ⟨By, 0, none⟩)] W fun e W' => e = .returned (.bool (bk && decide (1 < left))) ∧ LeftAt W' Bl (left - 1) ∧ R W' := by
  obtain ⟨f0, b1, b2, b3, b4⟩ := x
  dsimp only at hx
  subst hx
  have HLf : Hid (∀ W', Calls Tryz.prog 51 #[SltV virt lev (f0, false, b2, b3, b4) why] W' fun e w' => e = .returned (LfV virt f0 pg (f0, false, b2, b3, b4)) ∧ Below W'.heap.size W' w') := fun W' => sleaf_any virt lev pg (f0, false, b2, b3, b4) why W' hpg
  clear hpg
  unfold SltV LfV at HLf
  unfold LfV at hyd
  unfold SltV
  dsimp only at hyd HLf ⊢
  have HYd := Lib.hid hyd
  clear hyd
  have hmx : Tryz.prog.follows .mixedOrders = true := by kernel_rfl
  have HL := Lib.hid hl
  have hlt := hl.lt
  have c0 := hl.cell
  have z0 := hl.frozen
  clear hl
  obtain ⟨m, hm⟩ : ∃ m, m = left - 1 := ⟨_, rfl⟩
  have hmi : (left : Int) - 1 = (m : Int) := by omega
  have hw : IntKind.i64.wrap ((left : Int) - 1) = (m : Int) := by rw [hmi, IntKind.wrap_i64]; omega
  have hd : decide (0 < m) = decide (1 < left) := by rw [hm]; congr 1; exact propext ⟨fun h => by omega, fun h => by omega⟩
  rw [← hd, ← hm]
  rw [← hm] at HYd
  clear hd hm
  refine callsIn_of_wp Tryz.func50 rfl trivial ?_ rfl
  simp only [Tryz.ntmps50, List.size_toArray, List.length_cons, List.length_nil, Nat.reduceAdd, Nat.reduceSub, Array.replicate_succ, Array.replicate_zero, List.push_toArray, List.append_toArray, List.nil_append, List.cons_append]
  gi_wp2
  obtain ⟨W2, hW2⟩ : ∃ W2, (W.setCell ⟨Bl, 0, none⟩ (.int .i64 (m : Int))).alloc (Obj.cells #[.int .u64 (virt : Int), .int .i64 lev, .int .u64 (f0 : Int), .bool false, .bool b2, .bool b3, .bool b4, .int .i64 why] 114) = W2 := ⟨_, rfl⟩
  have HF : Hid (Fw W W2 Bl virt lev (f0, false, b2, b3, b4) why m) := hW2 ▸ Fw.of HL.out virt lev (f0, false, b2, b3, b4) why m
  rw [hW2]
  clear hW2
  clear c0 z0
  have hylt : By < W.heap.size := World.block_lt_of_cell? W _ hy
  have HYc : Hid (∀ W', Keeps (fun k => k = Bl) W W' → W'.cell? ⟨By, 0, none⟩ = some (.func (.yield l) #[] #[])) := fun W' hk => by
    have := hk.block By hylt hne
    unfold World.cell? at hy ⊢
    dsimp only at hy ⊢
    rw [this]
    exact hy
  clear hy
  obtain ⟨s0, s1, s2, s3, s4, s5, s6, s7⟩ := HF.out.box.cells
  dsimp only at s0 s1 s2 s3 s4 s5 s6 s7
  have c0 := HF.out.left.cell
  have y0 := HYc.out W2 HF.out.keeps
  cases bk
  all_goals gi_region_with_o (first
    | (refine ⟨trivial, fun h => absurd h (by decide), ?_⟩; refine (callsIn_wide.2 (HLf.out _)).mono ?_; rintro e w3 ⟨rfl, hb3⟩; have HB3 := Lib.hid ((Below.drew (Below.refl _ W2)).trans hb3); clear hb3; obtain ⟨t0, t1, t2, t3, t4, t5, t6, t7⟩ := (HF.out.box.below HB3.out).cells; dsimp only at t0 t1 t2 t3 t4 t5 t6 t7; have HK3 := Lib.hid (HF.out.keeps.trans (Keeps.of_below (S := fun k => k = Bl) HB3.out) (fun _ _ e => e)); have y3 := HYc.out w3 HK3.out; obtain ⟨fn, tmps, assign, body, hy3, hR3⟩ := HYd.out w3 HK3.out (HF.out.left.below HB3.out); have HR3 := Lib.hid hR3; clear hR3)
    | (refine ⟨fun h => absurd h (by decide), ?_⟩; refine HR3.out.mono ?_; rintro e W5 ⟨rfl, hl5, hJ5⟩; have HJ5 := Lib.hid hJ5; have HL5 := Lib.hid hl5; have c5 := hl5.cell; clear hJ5 hl5))
  all_goals (
    gi_wp2
    go_ret
    exact ⟨by simp [Act.put], HL5.out, HJ5.out⟩)
end Go.Proofs.YtlplbbnicfeoaaaGreat
