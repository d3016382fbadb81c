import Derived.Test.YtlplbbnicfeoaaaGreatPq28
import Derived.Test.YtlplbbnicfeoaaaGreatPq24
/- A table of Leaves: its entries, round by round. Own work. -/
namespace Go.Proofs.YtlplbbnicfeoaaaGreat
open Go.RowKit Go.Shelf Wk Lv
namespace Lv
section
variable {σ : Type} {lk : σ → Nat → Nat → Nat → (Ent × Int) × σ} {yd : σ → Slt → σ} {ct : σ → Slt → Bool}
/-- as many are left as must be, and whoever is told goes on -/
structure Fine (live : σ → Prop) (L : Nat) (t : St σ) : Prop where
  pos : t.go = true → 1 ≤ t.left
  most : t.left ≤ L
  live : t.go = true → live t.s
def aft (yd : σ → Slt → σ) (ct : σ → Slt → Bool) (deep : Nat → Nat → Nat → St σ → St σ) (t : St σ) (y : Slt) : St σ :=
  if (visitS yd ct t y).go && y.2.2.1.2.1 then deep y.2.2.1.1 y.1 (y.2.1 + 1) (visitS yd ct t y) else visitS yd ct t y
theorem step_aft {deep : Nat → Nat → Nat → St σ → St σ} {fr virt lev i : Nat} {t : St σ} (h : (lk t.s fr i lev).1.2 ≠ 41) : stepS lk yd ct deep fr virt lev i t = aft yd ct deep { t with s := (lk t.s fr i lev).2 } (slotS virt lev i (lk t.s fr i lev).1) := by
  rw [stepS, if_neg h]
  rfl
theorem step_absent {deep : Nat → Nat → Nat → St σ → St σ} {fr virt lev i : Nat} {t : St σ} (h : (lk t.s fr i lev).1.2 = 41) : stepS lk yd ct deep fr virt lev i t = { t with s := (lk t.s fr i lev).2 } := by
  rw [stepS, if_pos h]
variable {live : σ → Prop}
/-- what keeps whoever is told going on -/
structure Lives (lk : σ → Nat → Nat → Nat → (Ent × Int) × σ) (yd : σ → Slt → σ) (ct : σ → Slt → Bool) (live : σ → Prop) : Prop where
  ll : ∀ s a b c, live s → live (lk s a b c).2
  ly : ∀ s x, live s → ct s x = true → live (yd s x)
theorem visit_fine (hL : Lives lk yd ct live) {L : Nat} {t : St σ} (hgo : t.go = true) (h : Fine live L t) (y : Slt) : Fine live L (visitS yd ct t y) := by
  unfold visitS
  have := h.most
  split
  · exact ⟨fun e => by have e' := of_decide_eq_true e; show 1 ≤ t.left - 1; omega, by show t.left - 1 ≤ L; omega, fun _ => h.live hgo⟩
  · refine ⟨fun e => ?_, by show t.left - 1 ≤ L; omega, fun e => ?_⟩
    · have e' : (ct t.s y && decide (1 < t.left)) = true := e
      rw [Bool.and_eq_true] at e'
      have := of_decide_eq_true e'.2
      show 1 ≤ t.left - 1
      omega
    · have e' : (ct t.s y && decide (1 < t.left)) = true := e
      rw [Bool.and_eq_true] at e'
      exact hL.ly _ _ (h.live hgo) e'.1
theorem aft_fine (hL : Lives lk yd ct live) {L : Nat} {deep : Nat → Nat → Nat → St σ → St σ} (hd : ∀ a b c t, Fine live L t → Fine live L (deep a b c t)) {t : St σ} (hgo : t.go = true) (h : Fine live L t) (y : Slt) : Fine live L (aft yd ct deep t y) := by
  unfold aft
  split
  · exact hd _ _ _ _ (visit_fine hL hgo h y)
  · exact visit_fine hL hgo h y
theorem tab_fine (hL : Lives lk yd ct live) {L : Nat} {deep : Nat → Nat → Nat → St σ → St σ} (hd : ∀ a b c t, Fine live L t → Fine live L (deep a b c t)) (fr virt lev : Nat) {t : St σ} (h : Fine live L t) : ∀ i, Fine live L (tabN lk yd ct deep fr virt lev i t)
  | 0 => h
  | i + 1 => by
    have hi := tab_fine hL hd fr virt lev h i
    rw [tabN]
    split
    · rename_i hgo
      by_cases h41 : (lk (tabN lk yd ct deep fr virt lev i t).s fr i lev).1.2 = 41
      · rw [step_absent h41]
        exact ⟨hi.pos, hi.most, fun e => hL.ll _ _ _ _ (hi.live e)⟩
      · rw [step_aft h41]
        refine aft_fine hL hd ?_ ?_ _
        · exact hgo
        exact ⟨hi.pos, hi.most, fun e => hL.ll _ _ _ _ (hi.live e)⟩
    · exact hi
theorem fine3 {L : Nat} (a b c : Nat) (t : St σ) (h : Fine live L t) : Fine live L (deep3 a b c t) := h
theorem fine2 (hL : Lives lk yd ct live) {L : Nat} (a b c : Nat) (t : St σ) (h : Fine live L t) : Fine live L (deep2 lk yd ct a b c t) := tab_fine hL fine3 a b c h 512
theorem fine1 (hL : Lives lk yd ct live) {L : Nat} (a b c : Nat) (t : St σ) (h : Fine live L t) : Fine live L (deep1 lk yd ct a b c t) := tab_fine hL (fine2 hL) a b c h 512
end
end Lv
theorem Keeps.putObj (w : World) (l : Nat) (o : Obj) : Keeps (fun k => k = l) w (w.putObj l o) := ⟨rfl, rfl, rfl, by simp, fun k _ hn => World.putObj_heap_other hn⟩
theorem Keeps.back {Y : Nat → Prop} {w v : World} {l : Nat} {o : Obj} (h : Keeps (fun k => Y k ∨ k = l) w v) (hw : w.heap[l]? = some o) : Keeps Y w (v.putObj l o) := by
  have hl : l < w.heap.size := (Array.getElem?_eq_some_iff.1 hw).1
  refine ⟨h.os, h.tape, h.output, by simpa using h.size, fun k hk hn => ?_⟩
  by_cases e : k = l
  · subst e
    rw [World.putObj_heap_same (Nat.lt_of_lt_of_le hl h.size), hw]
  · rw [World.putObj_heap_other e]
    exact h.block k hk (fun hh => hh.elim hn e)
/-- what Leaves asks of a memory and of whoever is told -/
structure LvEnv {σ : Type} (lk : σ → Nat → Nat → Nat → (Ent × Int) × σ) (yd : σ → Slt → σ) (ct : σ → Slt → Bool) (live : σ → Prop) (cnt : σ → Nat) (Q : Nat) (I : σ → World → Prop) (Z : Nat → Prop) (N1 l0 : Nat) (T : TypeId) (u : Value) : Prop where
  lives : Lives lk yd ct live
  abides : ∀ s A B, I s A → Below N1 A B → I s B
  zlt : ∀ k, Z k → k < N1
  look : ∀ s W (fr i lev : Nat), lev ≤ 2 → i < 512 → fr + 4096 ≤ 18446744073709551616 → cnt s < Q → live s → N1 ≤ W.heap.size → I s W → Calls Tryz.prog 79 #[.iface T u, .int .u64 (fr : Int), .int .u64 (i : Int), .int .i64 (lev : Int)] W fun e w' => e = .returned (.tuple #[EntV (lk s fr i lev).1.1, .int .i64 (lk s fr i lev).1.2]) ∧ I (lk s fr i lev).2 w' ∧ Keeps Z W w'
  frame : ∀ s (fr i lev : Nat), (lk s fr i lev).1.1.1 + 4096 ≤ 18446744073709551616
  tell : ∀ n s W (x : Slt), x.1 < 549755813888 → x.2.1 ≤ 2 → x.2.2.1.1 + 4096 ≤ 18446744073709551616 → live s → N1 ≤ W.heap.size → I s W → YieldAt Fence.wide n Tryz.prog l0 #[LfV x.1 x.2.2.1.1 (pgs x.2.1) x.2.2.1, .int .i64 x.2.2.2] W fun e W' => e = .returned (.bool (ct s x)) ∧ I (yd s x) W' ∧ Keeps Z W W'
  cl : ∀ s a b c, cnt (lk s a b c).2 ≤ cnt s + 1
  cy : ∀ s x, cnt (yd s x) ≤ cnt s
theorem rch_pgs {lev : Nat} (h : lev ≤ 2) : 4096 * pgs lev = rch lev := by
  rcases (by omega : lev = 0 ∨ lev = 1 ∨ lev = 2) with rfl | rfl | rfl <;> rfl
theorem rch_pos (lev : Nat) : 4096 ≤ rch lev := by
  unfold rch
  split
  · omega
  · split <;> omega
section
variable {σ : Type} {lk : σ → Nat → Nat → Nat → (Ent × Int) × σ} {yd : σ → Slt → σ} {ct : σ → Slt → Bool} {live : σ → Prop} {cnt : σ → Nat} {Q : Nat} {I : σ → World → Prop} {Z : Nat → Prop} {N1 l0 : Nat} {T : TypeId} {u : Value}
/-- where a table's loop has come to its end -/
def LvD (I : σ → World → Prop) (Y : Nat → Prop) (Bl l : Nat) (W1 : World) (t : St σ) (W : World) : Prop := t.go = true ∧ I t.s W ∧ LeftAt W Bl t.left ∧ Keeps (fun k => Y k ∨ k = l) W1 W
/-- where it was left -/
def LvS (I : σ → World → Prop) (Y : Nat → Prop) (l : Nat) (W1 : World) (t : St σ) (c : Code) (W : World) : Prop := c = .ret ∧ t.go = false ∧ I t.s W ∧ Keeps (fun k => Y k ∨ k = l) W1 W
/-- what a round comes to -/
def LvR (I : σ → World → Prop) (Y : Nat → Prop) (Bl l : Nat) (r : Loop) (W1 : World) (t : St σ) (e : Ending) (W : World) : Prop :=
  e = .returned (.bool t.go) ∧ I t.s W ∧ (t.go = true → Keeps Y W1 W ∧ LeftAt W Bl t.left) ∧ (t.go = false → RecAt W l r .done (some .ret) ∧ Keeps (fun k => Y k ∨ k = l) W1 W)
theorem level_any (E : LvEnv lk yd ct live cnt Q I Z N1 l0 T u) {n l Bs Bm Bl : Nat} {r : Loop} {W1 : World} {deep : Nat → Nat → Nat → St σ → St σ} {q L : Nat} (hdc : ∀ a b c t, cnt (deep a b c t).s ≤ cnt t.s + q) (hdf : ∀ a b c t, Fine live L t → Fine live L (deep a b c t))
    {virt lev : Nat} {x : Ent} {why : Int} (hlev : lev ≤ 2) (hx : x.2.1 = true) (hxf : x.1 + 4096 ≤ 18446744073709551616) (hv : virt + 512 * rch lev ≤ 549755813888)
    {t : St σ} (ht : t.go = true) (hf : Fine live L t) (hcnt : cnt t.s + 512 * (q + 1) ≤ Q)
    (hN : N1 ≤ W1.heap.size) (hl : N1 ≤ l) (hlr : RecAt W1 l r .ready none) (hlb : l ≠ Bl) (hBs : BoxS W1 Bs virt ((lev : Int) - 1) x why) (hBsn : N1 ≤ Bs) (hBsl : Bs ≠ Bl) (hBm : W1.cell? ⟨Bm, 0, none⟩ = some (.iface T u)) (hBmn : N1 ≤ Bm) (hBml : Bm ≠ Bl) (hBl : N1 ≤ Bl) (hle : LeftAt W1 Bl t.left) (hI : I t.s W1)
    (hround : ∀ (t' : St σ) (y : Slt) (W : World), t'.go = true → Fine live L t' → y.1 < 549755813888 → y.1 + rch lev ≤ 549755813888 → y.2.1 = lev → y.2.2.1.1 + 4096 ≤ 18446744073709551616 → cnt t'.s + q ≤ Q → Keeps (fun k => Z k ∨ k = Bl) W1 W → LeftAt W Bl t'.left → I t'.s W →
      YieldAt Fence.wide (n - 1) Tryz.prog l #[SltV y.1 (y.2.1 : Int) y.2.2.1 y.2.2.2] W (LvR I (fun k => Z k ∨ k = Bl) Bl l r W1 (aft yd ct deep t' y))) :
    CallsIn Fence.wide n Tryz.prog 78 #[.func (.yield l) #[] #[], .pointer (some ⟨Bs, 0, none⟩), .pointer (some ⟨Bm, 0, none⟩)] W1
      (IterP l r (LvD I (fun k => Z k ∨ k = Bl) Bl l W1 (tabN lk yd ct deep x.1 virt lev 512 t)) (LvS I (fun k => Z k ∨ k = Bl) l W1 (tabN lk yd ct deep x.1 virt lev 512 t))) := by
  have hY : ∀ k, N1 ≤ k → k ≠ Bl → ¬ (Z k ∨ k = Bl) := fun k h1 h2 h => h.elim (fun hz => by have := E.zlt k hz; omega) h2
  have hbox : ∀ W, Keeps (fun k => Z k ∨ k = Bl) W1 W → BoxS W Bs virt ((lev : Int) - 1) x why ∧ W.cell? ⟨Bm, 0, none⟩ = some (.iface T u) := fun W hk => by
    refine ⟨hBs.keeps hk (hY _ hBsn hBsl), ?_⟩
    have hb := hk.block Bm (World.block_lt_of_cell? W1 _ hBm) (hY _ hBmn hBml)
    unfold World.cell? at hBm ⊢
    dsimp only at hBm ⊢
    rw [hb]
    exact hBm
  have hrp : 512 * rch lev < 18446744073709551616 := by omega
  refine (below1_in n l Bs Bm virt lev x why (.iface T u) hlev (by omega) hx
    (fun i W => Keeps (fun k => Z k ∨ k = Bl) W1 W ∧ LeftAt W Bl (tabN lk yd ct deep x.1 virt lev i t).left ∧ I (tabN lk yd ct deep x.1 virt lev i t).s W ∧ (tabN lk yd ct deep x.1 virt lev i t).go = true)
    (fun i W => Keeps (fun k => Z k ∨ k = Bl) W1 W ∧ LeftAt W Bl (tabN lk yd ct deep x.1 virt lev i t).left ∧ I (lk (tabN lk yd ct deep x.1 virt lev i t).s x.1 i lev).2 W ∧ (tabN lk yd ct deep x.1 virt lev i t).go = true)
    (fun W => I (tabN lk yd ct deep x.1 virt lev 512 t).s W ∧ (tabN lk yd ct deep x.1 virt lev 512 t).go = false ∧ RecAt W l r .done (some .ret) ∧ Keeps (fun k => (Z k ∨ k = Bl) ∨ k = l) W1 W)
    (fun i => (lk (tabN lk yd ct deep x.1 virt lev i t).s x.1 i lev).1) (fun i => (tabN lk yd ct deep x.1 virt lev (i + 1) t).go)
    (fun i W h => hbox W h.1) (fun i W h => (hbox W h.1).1) ?_ ?_ ?_ ?_ ?_ W1 ⟨Keeps.refl _ _, hle, hI, ht⟩).mono ?_
  · intro i W W' h hb
    exact ⟨h.1.trans (Keeps.of_below (S := fun _ => False) hb) (fun _ _ h => h.elim), h.2.1.below hb, E.abides _ _ _ h.2.2.1 (hb.mono (Nat.le_trans hN h.1.size)), h.2.2.2⟩
  · intro W
    have := reach_any hlev W
    rwa [rch_pgs hlev] at this
  · intro i W hi h
    have hc := cnt_tab (ct := ct) E.cl E.cy hdc x.1 virt lev t i
    have hc2 : i * (q + 1) ≤ 511 * (q + 1) := Nat.mul_le_mul_right _ (by omega)
    refine (E.look _ W x.1 i lev hlev hi hxf (by omega) ((tab_fine (lk := lk) (yd := yd) (ct := ct) E.lives hdf x.1 virt lev hf i).live h.2.2.2) (Nat.le_trans hN h.1.size) h.2.2.1).mono ?_
    rintro e w' ⟨rfl, h1, h2⟩
    exact ⟨rfl, h.1.trans h2 (fun _ _ hz => .inl hz), h.2.1.keeps h2 (fun hz => by have := E.zlt _ hz; omega), h1, h.2.2.2⟩
  · intro i W hi h41 h
    rw [tabN_go h.2.2.2, step_absent h41]
    exact ⟨h.1, h.2.1, h.2.2.1, h.2.2.2⟩
  · intro i W hi h41 h
    have hc := cnt_tab (ct := ct) E.cl E.cy hdc x.1 virt lev t i
    have hc2 : i * (q + 1) ≤ 511 * (q + 1) := Nat.mul_le_mul_right _ (by omega)
    have hc3 := E.cl (tabN lk yd ct deep x.1 virt lev i t).s x.1 i lev
    have hfi := tab_fine (lk := lk) (yd := yd) (ct := ct) E.lives hdf x.1 virt lev hf i
    have hir : i * rch lev + rch lev ≤ 512 * rch lev := by rw [← Nat.succ_mul]; exact Nat.mul_le_mul_right _ hi
    have hr0 := rch_pos lev
    have hs : tabN lk yd ct deep x.1 virt lev (i + 1) t = aft yd ct deep { tabN lk yd ct deep x.1 virt lev i t with s := (lk (tabN lk yd ct deep x.1 virt lev i t).s x.1 i lev).2 } (slotS virt lev i (lk (tabN lk yd ct deep x.1 virt lev i t).s x.1 i lev).1) := by
      rw [tabN_go h.2.2.2, step_aft h41]
    refine (hround { tabN lk yd ct deep x.1 virt lev i t with s := (lk (tabN lk yd ct deep x.1 virt lev i t).s x.1 i lev).2 } (slotS virt lev i (lk (tabN lk yd ct deep x.1 virt lev i t).s x.1 i lev).1) W h.2.2.2 ⟨hfi.pos, hfi.most, fun e => E.lives.ll _ _ _ _ (hfi.live e)⟩ (by show virt + i * rch lev < _; omega) (by show virt + i * rch lev + _ ≤ _; omega) rfl (E.frame _ _ _ _) (by show cnt (lk (tabN lk yd ct deep x.1 virt lev i t).s x.1 i lev).2 + q ≤ Q; omega) h.1 h.2.1 h.2.2.1).mono ?_
    rintro e W' ⟨rfl, h1, h2, h3⟩
    rw [← hs] at h1 h2 h3
    refine ⟨by rw [hs], fun hb => ⟨(h2 hb).1, (h2 hb).2, h1, hb⟩, fun hb => ?_⟩
    have he := tabN_end hb (by omega : i + 1 ≤ 512)
    rw [he]
    exact ⟨h1, hb, h3 hb⟩
  · rintro e W' ⟨he, ⟨h1, h2, h3, h4⟩ | ⟨h1, h2, h3, h4⟩⟩
    · refine ⟨he, .inl ⟨(h1.block l hlr.lt (hY l hl hlb)).trans hlr, h4, E.abides _ _ _ h3 ((Keeps.putObj W' l _).below (Nat.le_trans hN h1.size) (fun i _ e => by omega)), h2.keeps (Keeps.putObj W' l _) (fun e => hlb e.symm), ?_⟩⟩
      exact (h1.mono (fun _ _ h => .inl h)).trans (Keeps.putObj W' l _) (fun _ _ h => .inr h)
    · refine ⟨he, .inr ⟨.ret, h3, rfl, h2, E.abides _ _ _ h1 ((Keeps.putObj W' l _).below (Nat.le_trans hN h4.size) (fun i _ e => by omega)), h4.trans (Keeps.putObj W' l _) (fun _ _ h => .inr h)⟩⟩
end
end Go.Proofs.YtlplbbnicfeoaaaGreat
