import Derived.Test.YtlplbbnicfeoaaaGreatPq32
import Derived.Test.YtlplbbnicfeoaaaGreatPq24
import Derived.Test.YtlplbbnicfeoaaaGreatPq33
/- walk without a memory; Leaves' call. Own work. -/
namespace Go.Proofs.YtlplbbnicfeoaaaGreat
open Go.RowKit Go.Shelf Wk Lv
attribute [local go_sem] Oper.semAt_some
set_option maxRecDepth 100000 in
set_option maxHeartbeats 2000000 in
theorem address_nil (r v : Nat) (acc : Int) (w : World) : Calls Tryz.prog 46 #[.nilIface, .int .u64 (r : Int), .int .u64 (v : Int), .int .i64 acc] w fun e w' => e = .returned (.tuple #[.int .u64 0, .int .i64 1]) ∧ Below w.heap.size w w' := by
  go_enter Tryz.func46, Tryz.ntmps46
  go_wp2_with fail
  refine bodyPost_ret (v := .tuple #[.int .u64 0, .int .i64 1]) (by simp [results, Tryz.results46, go_sem]) rfl ?_
  exact ⟨rfl, by first | exact Below.refl _ _ | exact (Below.refl _ _).alloc (Nat.le_refl _) _⟩
set_option maxRecDepth 100000 in
set_option maxHeartbeats 2000000 in
theorem translate_nil (r v : Nat) (acc : Int) (w : World) : Calls Tryz.prog 19 #[.nilIface, .int .u64 (r : Int), .int .u64 (v : Int), .int .i64 acc] w fun e w' => e = .returned (.tuple #[.int .u64 0, .agg #[.int .i64 1, .int .u64 (v : Int)]]) ∧ Below w.heap.size w w' := by
  have HA : Hid (∀ W, Calls Tryz.prog 46 #[.nilIface, .int .u64 (r : Int), .int .u64 (v : Int), .int .i64 acc] W fun e w' => e = .returned (.tuple #[.int .u64 0, .int .i64 1]) ∧ Below W.heap.size W w') := address_nil r v acc
  go_enter Tryz.func19, Tryz.ntmps19
  go_wp2_with fail
  refine (HA.out _).mono ?_
  rintro e W3 ⟨rfl, hb1⟩
  have HX3 : Hid (BoxF W3 w.heap.size 0 0) := (BoxF.new w 0 0).below hb1
  have HB3 : Hid (Below w.heap.size w W3) := ((Below.refl _ w).alloc (Nat.le_refl _) _).trans (hb1.mono (by simp))
  obtain ⟨x0, x1, f0, f1⟩ := HX3.out.cells
  clear HA hb1
  go_wp2_with fail
  obtain ⟨d0, d1, _⟩ := (HX3.out.set 1 v).cells
  refine bodyPost_ret (v := .tuple #[.int .u64 0, .agg #[.int .i64 1, .int .u64 (v : Int)]]) (by simp [results, Tryz.results19, go_sem, d0, d1]) rfl ?_
  exact ⟨rfl, HB3.out.trans ((Keeps.two W3 w.heap.size (.int .i64 1) (.int .u64 (v : Int))).below HB3.out.size (fun i _ e => by omega))⟩
theorem cell_first (w : World) (v : Value) (t : TypeId) : (w.alloc (Obj.cells #[v] t)).cell? ⟨w.heap.size, 0, none⟩ = some v := by
  have := World.alloc_heap_new w (Obj.cells #[v] t)
  revert this
  generalize w.alloc _ = Wn
  intro this
  simp [World.cell?, this]
theorem cell_at {w : World} {v : Value} {t : TypeId} {k : Nat} (hk : k = w.heap.size) : (w.alloc (Obj.cells #[v] t)).cell? ⟨k, 0, none⟩ = some v := by
  subst hk
  exact cell_first w v t
theorem cell_more {w : World} {g : Nat} {v : Value} (o : Obj) (h : w.cell? ⟨g, 0, none⟩ = some v) : (w.alloc o).cell? ⟨g, 0, none⟩ = some v := (Keeps.alloc (S := fun _ => False) w o).cell' h (fun h => h)
set_option maxRecDepth 100000 in
set_option maxHeartbeats 2000000 in
theorem leaves_call (mv : Value) (hmv : mv = .nilIface ∨ ∃ T u, mv = .iface T u) (root : Nat) (most : Int) (w : World) : Calls Tryz.prog 25 #[mv, .int .u64 (root : Int), .int .i64 most] w fun e w' => e = .returned (.func (.func 48) #[] #[.pointer (some ⟨w.heap.size, 0, none⟩), .pointer (some ⟨w.heap.size + 2, 0, none⟩), .pointer (some ⟨w.heap.size + 1, 0, none⟩)]) ∧ w'.cell? ⟨w.heap.size, 0, none⟩ = some mv ∧ w'.cell? ⟨w.heap.size + 2, 0, none⟩ = some (.int .i64 most) ∧ w'.cell? ⟨w.heap.size + 1, 0, none⟩ = some (.int .u64 (root : Int)) ∧ w'.heap.size = w.heap.size + 3 ∧ Below w.heap.size w w' := by
  rcases hmv with rfl | ⟨T, u, rfl⟩
  all_goals (
    go_enter Tryz.func25, Tryz.ntmps25
    go_wp2
    go_ret
    refine ⟨rfl, ?_, ?_, ?_, by simp, (((Below.refl _ w).alloc (Nat.le_refl _) _).alloc (by simp) _).alloc (by simp; omega) _⟩
    · exact cell_more _ (cell_more _ (cell_first _ _ _))
    · exact cell_at (by simp)
    · exact cell_more _ (cell_at (by simp)))
set_option maxRecDepth 100000 in
set_option maxHeartbeats 2000000 in
theorem leaves1_nil {n l0 Bm Bo Br : Nat} {W : World} (hBm : W.cell? ⟨Bm, 0, none⟩ = some .nilIface) :
    CallsIn Fence.wide n Tryz.prog 48 #[.func (.yield l0) #[] #[], .pointer (some ⟨Bm, 0, none⟩), .pointer (some ⟨Bo, 0, none⟩), .pointer (some ⟨Br, 0, none⟩)] W fun e W' => (∃ v, e = .returned v) ∧ Below W.heap.size W W' := by
  have hbm : Bm < W.heap.size := World.block_lt_of_cell? W _ hBm
  refine callsIn_of_wp_marks Tryz.func48 rfl trivial ?_ rfl
  simp only [Tryz.ntmps48, List.size_toArray, List.length_cons, List.length_nil, Nat.reduceAdd, Nat.reduceSub, Array.replicate_succ, Array.replicate_zero, List.push_toArray, List.append_toArray, List.nil_append, List.cons_append]
  gi_wp2
  exact ⟨_, results_none rfl _ _ _, ⟨_, rfl⟩, (Below.refl _ W).alloc (Nat.le_refl _) _⟩
end Go.Proofs.YtlplbbnicfeoaaaGreat
/- Leaves' iterator, over any memory, where whoever is told keeps rows that grow. Own work. -/
namespace Go.Proofs.YtlplbbnicfeoaaaGreat
open Go.RowKit Go.Shelf Wk Lv
attribute [local go_sem] Oper.semAt_some
/-- what Leaves asks of a memory and of whoever is told -/
structure RvEnv {σ : Type} (lk : σ → Nat → Nat → Nat → (Ent × Int) × σ) (yd : σ → Slt → σ) (ct : σ → Slt → Bool) (live : σ → Prop) (bud : σ → Nat) (L0 : Nat) (cnt : σ → Nat) (Q : Nat) (I : σ → World → Prop) (Z : Nat → Prop) (N1 l0 : Nat) (T : TypeId) (u : Value) : Prop where
  lives : LivesR lk yd ct live bud
  abides : ∀ s A B, I s A → BelowR N1 A B → I s B
  zlt : ∀ k, Z k → k < N1
  look : ∀ s W (fr i lev : Nat), lev ≤ 2 → i < 512 → fr + 4096 ≤ 18446744073709551616 → cnt s < Q → live s → N1 ≤ W.heap.size → I s W → Calls Tryz.prog 79 #[.iface T u, .int .u64 (fr : Int), .int .u64 (i : Int), .int .i64 (lev : Int)] W fun e w' => e = .returned (.tuple #[EntV (lk s fr i lev).1.1, .int .i64 (lk s fr i lev).1.2]) ∧ I (lk s fr i lev).2 w' ∧ Keeps Z W w'
  frame : ∀ s (fr i lev : Nat), (lk s fr i lev).1.1.1 + 4096 ≤ 18446744073709551616
  tell : ∀ n s W (x : Slt), x.1 < 549755813888 → x.2.1 ≤ 2 → x.2.2.1.1 + 4096 ≤ 18446744073709551616 → live s → bud s < L0 → N1 ≤ W.heap.size → I s W → YieldAt Fence.wide n Tryz.prog l0 #[LfV x.1 x.2.2.1.1 (pgs x.2.1) x.2.2.1, .int .i64 x.2.2.2] W fun e W' => e = .returned (.bool (ct s x)) ∧ I (yd s x) W' ∧ KeepsR Z W W'
  cl : ∀ s a b c, cnt (lk s a b c).2 ≤ cnt s + 1
  cy : ∀ s x, cnt (yd s x) ≤ cnt s
section
variable {σ : Type} {lk : σ → Nat → Nat → Nat → (Ent × Int) × σ} {yd : σ → Slt → σ} {ct : σ → Slt → Bool} {live : σ → Prop} {bud : σ → Nat} {L0 : Nat} {cnt : σ → Nat} {Q : Nat} {I : σ → World → Prop} {Z : Nat → Prop} {N1 l0 : Nat} {T : TypeId} {u : Value}
/-- where a table's loop has come to its end -/
def RvD (I : σ → World → Prop) (Y : Nat → Prop) (Bl l : Nat) (W1 : World) (t : St σ) (W : World) : Prop := t.go = true ∧ I t.s W ∧ LeftAt W Bl t.left ∧ KeepsR (fun k => Y k ∨ k = l) W1 W
/-- where it was left -/
def RvS (I : σ → World → Prop) (Y : Nat → Prop) (l : Nat) (W1 : World) (t : St σ) (c : Code) (W : World) : Prop := c = .ret ∧ t.go = false ∧ I t.s W ∧ KeepsR (fun k => Y k ∨ k = l) W1 W
/-- what a round comes to -/
def RvR (I : σ → World → Prop) (Y : Nat → Prop) (Bl l : Nat) (r : Loop) (W1 : World) (t : St σ) (e : Ending) (W : World) : Prop :=
  e = .returned (.bool t.go) ∧ I t.s W ∧ (t.go = true → KeepsR Y W1 W ∧ LeftAt W Bl t.left) ∧ (t.go = false → RecAt W l r .done (some .ret) ∧ KeepsR (fun k => Y k ∨ k = l) W1 W)
theorem level_r (E : RvEnv lk yd ct live bud L0 cnt Q I Z N1 l0 T u) {n l Bs Bm Bl : Nat} {r : Loop} {W1 : World} {deep : Nat → Nat → Nat → St σ → St σ} {q L : Nat} (hdc : ∀ a b c t, cnt (deep a b c t).s ≤ cnt t.s + q) (hdf : ∀ a b c t, FineR live bud L t → FineR live bud L (deep a b c t))
    {virt lev : Nat} {x : Ent} {why : Int} (hlev : lev ≤ 2) (hx : x.2.1 = true) (hxf : x.1 + 4096 ≤ 18446744073709551616) (hv : virt + 512 * rch lev ≤ 549755813888)
    {t : St σ} (ht : t.go = true) (hf : FineR live bud L t) (hcnt : cnt t.s + 512 * (q + 1) ≤ Q)
    (hN : N1 ≤ W1.heap.size) (hl : N1 ≤ l) (hlr : RecAt W1 l r .ready none) (hlb : l ≠ Bl) (hBs : BoxS W1 Bs virt ((lev : Int) - 1) x why) (hBsn : N1 ≤ Bs) (hBsl : Bs ≠ Bl) (hBm : W1.cell? ⟨Bm, 0, none⟩ = some (.iface T u)) (hBmn : N1 ≤ Bm) (hBml : Bm ≠ Bl) (hBl : N1 ≤ Bl) (hle : LeftAt W1 Bl t.left) (hI : I t.s W1)
    (hround : ∀ (t' : St σ) (y : Slt) (W : World), t'.go = true → FineR live bud L t' → y.1 < 549755813888 → y.1 + rch lev ≤ 549755813888 → y.2.1 = lev → y.2.2.1.1 + 4096 ≤ 18446744073709551616 → cnt t'.s + q ≤ Q → KeepsR (fun k => Z k ∨ k = Bl) W1 W → LeftAt W Bl t'.left → I t'.s W →
      YieldAt Fence.wide (n - 1) Tryz.prog l #[SltV y.1 (y.2.1 : Int) y.2.2.1 y.2.2.2] W (RvR I (fun k => Z k ∨ k = Bl) Bl l r W1 (aft yd ct deep t' y))) :
    CallsIn Fence.wide n Tryz.prog 78 #[.func (.yield l) #[] #[], .pointer (some ⟨Bs, 0, none⟩), .pointer (some ⟨Bm, 0, none⟩)] W1
      (IterP l r (RvD I (fun k => Z k ∨ k = Bl) Bl l W1 (tabN lk yd ct deep x.1 virt lev 512 t)) (RvS I (fun k => Z k ∨ k = Bl) l W1 (tabN lk yd ct deep x.1 virt lev 512 t))) := by
  have hY : ∀ k, N1 ≤ k → k ≠ Bl → ¬ (Z k ∨ k = Bl) := fun k h1 h2 h => h.elim (fun hz => by have := E.zlt k hz; omega) h2
  have hbox : ∀ W, KeepsR (fun k => Z k ∨ k = Bl) W1 W → BoxS W Bs virt ((lev : Int) - 1) x why ∧ W.cell? ⟨Bm, 0, none⟩ = some (.iface T u) := fun W hk => by
    exact ⟨hBs.keepsR hk (hY _ hBsn hBsl), hk.cell' hBm (fun _ _ h => by cases h) (hY _ hBmn hBml)⟩
  have hrp : 512 * rch lev < 18446744073709551616 := by omega
  refine (below1_in n l Bs Bm virt lev x why (.iface T u) hlev (by omega) hx
    (fun i W => KeepsR (fun k => Z k ∨ k = Bl) W1 W ∧ LeftAt W Bl (tabN lk yd ct deep x.1 virt lev i t).left ∧ I (tabN lk yd ct deep x.1 virt lev i t).s W ∧ (tabN lk yd ct deep x.1 virt lev i t).go = true)
    (fun i W => KeepsR (fun k => Z k ∨ k = Bl) W1 W ∧ LeftAt W Bl (tabN lk yd ct deep x.1 virt lev i t).left ∧ I (lk (tabN lk yd ct deep x.1 virt lev i t).s x.1 i lev).2 W ∧ (tabN lk yd ct deep x.1 virt lev i t).go = true)
    (fun W => I (tabN lk yd ct deep x.1 virt lev 512 t).s W ∧ (tabN lk yd ct deep x.1 virt lev 512 t).go = false ∧ RecAt W l r .done (some .ret) ∧ KeepsR (fun k => (Z k ∨ k = Bl) ∨ k = l) W1 W)
    (fun i => (lk (tabN lk yd ct deep x.1 virt lev i t).s x.1 i lev).1) (fun i => (tabN lk yd ct deep x.1 virt lev (i + 1) t).go)
    (fun i W h => hbox W h.1) (fun i W h => (hbox W h.1).1) ?_ ?_ ?_ ?_ ?_ W1 ⟨KeepsR.refl _ _, hle, hI, ht⟩).mono ?_
  · intro i W W' h hb
    exact ⟨h.1.trans (KeepsR.of_below (S := fun _ => False) hb) (fun _ _ h => h.elim), h.2.1.below hb, E.abides _ _ _ h.2.2.1 (BelowR.of_below hb), h.2.2.2⟩
  · intro W
    have := reach_any hlev W
    rwa [rch_pgs hlev] at this
  · intro i W hi h
    have hc := cnt_tab (ct := ct) E.cl E.cy hdc x.1 virt lev t i
    have hc2 : i * (q + 1) ≤ 511 * (q + 1) := Nat.mul_le_mul_right _ (by omega)
    refine (E.look _ W x.1 i lev hlev hi hxf (by omega) ((tab_finer (lk := lk) (yd := yd) (ct := ct) E.lives hdf x.1 virt lev hf i).live h.2.2.2) (Nat.le_trans hN h.1.size) h.2.2.1).mono ?_
    rintro e w' ⟨rfl, h1, h2⟩
    exact ⟨rfl, h.1.trans h2.r (fun _ _ hz => .inl hz), h.2.1.keeps h2 (fun hz => by have := E.zlt _ hz; omega), h1, h.2.2.2⟩
  · intro i W hi h41 h
    rw [tabN_go h.2.2.2, step_absent h41]
    exact ⟨h.1, h.2.1, h.2.2.1, h.2.2.2⟩
  · intro i W hi h41 h
    have hc := cnt_tab (ct := ct) E.cl E.cy hdc x.1 virt lev t i
    have hc2 : i * (q + 1) ≤ 511 * (q + 1) := Nat.mul_le_mul_right _ (by omega)
    have hc3 := E.cl (tabN lk yd ct deep x.1 virt lev i t).s x.1 i lev
    have hfi := tab_finer (lk := lk) (yd := yd) (ct := ct) E.lives hdf x.1 virt lev hf i
    have hir : i * rch lev + rch lev ≤ 512 * rch lev := by rw [← Nat.succ_mul]; exact Nat.mul_le_mul_right _ hi
    have hr0 := rch_pos lev
    have hs : tabN lk yd ct deep x.1 virt lev (i + 1) t = aft yd ct deep { tabN lk yd ct deep x.1 virt lev i t with s := (lk (tabN lk yd ct deep x.1 virt lev i t).s x.1 i lev).2 } (slotS virt lev i (lk (tabN lk yd ct deep x.1 virt lev i t).s x.1 i lev).1) := by
      rw [tabN_go h.2.2.2, step_aft h41]
    refine (hround { tabN lk yd ct deep x.1 virt lev i t with s := (lk (tabN lk yd ct deep x.1 virt lev i t).s x.1 i lev).2 } (slotS virt lev i (lk (tabN lk yd ct deep x.1 virt lev i t).s x.1 i lev).1) W h.2.2.2 (look_finer E.lives hfi _ _ _) (by show virt + i * rch lev < _; omega) (by show virt + i * rch lev + _ ≤ _; omega) rfl (E.frame _ _ _ _) (by show cnt (lk (tabN lk yd ct deep x.1 virt lev i t).s x.1 i lev).2 + q ≤ Q; omega) h.1 h.2.1 h.2.2.1).mono ?_
    rintro e W' ⟨rfl, h1, h2, h3⟩
    rw [← hs] at h1 h2 h3
    refine ⟨by rw [hs], fun hb => ⟨(h2 hb).1, (h2 hb).2, h1, hb⟩, fun hb => ?_⟩
    have he := tabN_end hb (by omega : i + 1 ≤ 512)
    rw [he]
    exact ⟨h1, hb, h3 hb⟩
  · rintro e W' ⟨he, ⟨h1, h2, h3, h4⟩ | ⟨h1, h2, h3, h4⟩⟩
    · refine ⟨he, .inl ⟨hlr.keepsR h1 (hY l hl hlb), h4, E.abides _ _ _ h3 (BelowR.recAt hl (hlr.keepsR h1 (hY l hl hlb))), h2.keeps (Keeps.putObj W' l _) (fun e => hlb e.symm), ?_⟩⟩
      exact (h1.mono (fun _ _ h => .inl h)).trans (KeepsR.putObj W' l _) (fun _ _ h => .inr h)
    · refine ⟨he, .inr ⟨.ret, h3, rfl, h2, E.abides _ _ _ h1 (BelowR.recAt hl h3), h4.trans (KeepsR.putObj W' l _) (fun _ _ h => .inr h)⟩⟩

/-- further, whatever it comes by -/
theorem further_r (E : RvEnv lk yd ct live bud L0 cnt Q I Z N1 l0 T u) {n Bl By L : Nat} (t : St σ) (y : Slt) (W : World) (hgo : t.go = true) (hf : FineR live bud L t) (hL : L ≤ 9223372036854775807) (hL0 : L ≤ L0) (hy1 : y.1 < 549755813888) (hy2 : y.2.1 ≤ 2) (hy3 : y.2.2.1.1 + 4096 ≤ 18446744073709551616) (hN : N1 ≤ W.heap.size) (hBl : N1 ≤ Bl) (hne : By ≠ Bl) (hle : LeftAt W Bl t.left) (hI : I t.s W) (hyv : W.cell? ⟨By, 0, none⟩ = some (.func (.yield l0) #[] #[])) :
    CallsIn Fence.wide n Tryz.prog 50 #[SltV y.1 (y.2.1 : Int) y.2.2.1 y.2.2.2, .pointer (some ⟨Bl, 0, none⟩), .pointer (some ⟨By, 0, none⟩)] W fun e W' => e = .returned (.bool (visitS yd ct t y).go) ∧ LeftAt W' Bl (visitS yd ct t y).left ∧ I (visitS yd ct t y).s W' ∧ KeepsR (fun k => Z k ∨ k = Bl) W W' := by
  have hp := hf.pos hgo
  have hm := hf.most
  unfold visitS
  by_cases hx : y.2.2.1.2.1 = true
  · rw [if_pos hx]
    refine (callsIn_wide.2 (further_table Bl By y.1 (y.2.1 : Int) y.2.2.1 y.2.2.2 t.left W hx hp (by omega) hle)).mono ?_
    rintro e W' ⟨rfl, h1, h2⟩
    exact ⟨rfl, h1, E.abides _ _ _ hI (BelowR.of_keeps h2 (fun i _ e => by have e : i = Bl := e; subst e; exact ⟨hBl, hle.notRw⟩)), h2.r.mono (fun _ _ h => .inr h)⟩
  · have hx' : y.2.2.1.2.1 = false := by simpa using hx
    rw [if_neg hx]
    refine (further_told n Bl By l0 y.1 (y.2.1 : Int) y.2.2.1 y.2.2.2 t.left (pgs y.2.1) (ct t.s y) (fun W' => I (yd t.s y) W' ∧ KeepsR (fun k => Z k ∨ k = Bl) W W') W hx' hp (by omega) hle hne hyv (fun W => pages_any hy2 W) ?_).mono ?_
    · intro W' hk hl'
      refine (E.tell _ t.s W' y hy1 hy2 hy3 (hf.live hgo) (by omega) (Nat.le_trans hN hk.size) (E.abides _ _ _ hI (BelowR.of_keeps hk (fun i _ e => by have e : i = Bl := e; subst e; exact ⟨hBl, hle.notRw⟩)))).mono ?_
      rintro e W'' ⟨rfl, h1, h2⟩
      exact ⟨rfl, hl'.keepsR h2 (fun hz => by have := E.zlt _ hz; omega), h1, (hk.r.mono (fun _ _ h => .inr h)).trans h2 (fun _ _ h => .inl h)⟩
    · rintro e W' ⟨rfl, h1, h2, h3⟩
      exact ⟨rfl, h1, h2, h3⟩

end
end Go.Proofs.YtlplbbnicfeoaaaGreat
