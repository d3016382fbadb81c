import Derived.Test.YtlplbbnicfeoaaaGreatPq47
import Derived.Laws.EntriesVeiled
/- Leaves' iterator, walked, where whoever is told keeps rows that grow. Own work. -/
namespace Go.Proofs.YtlplbbnicfeoaaaGreat
open Go.RowKit Go.Shelf Wk Lv
attribute [local go_sem] Oper.semAt_some
section
variable {σ : Type} {lk : σ → Nat → Nat → Nat → (Ent × Int) × σ} {yd : σ → Slt → σ} {ct : σ → Slt → Bool} {live : σ → Prop} {bud : σ → Nat} {L0 : Nat} {cnt : σ → Nat} {Q : Nat} {I : σ → World → Prop} {Z : Nat → Prop} {N1 l0 : Nat} {T : TypeId} {u : Value}
/-- the entries below a slot: of a table, or none -/
theorem inner_r (E : RvEnv lk yd ct live bud L0 cnt Q I Z N1 l0 T u) {n l Bs Bm Bl : Nat} {r : Loop} {W1 : World} {deep : Nat → Nat → Nat → St σ → St σ} {q L : Nat} (hdc : ∀ a b c t, cnt (deep a b c t).s ≤ cnt t.s + q) (hdf : ∀ a b c t, FineR live bud L t → FineR live bud L (deep a b c t))
    {virt lev : Nat} {x : Ent} {why : Int} (hlev : lev ≤ 2) (hxf : x.1 + 4096 ≤ 18446744073709551616) (hv : virt + 512 * rch lev ≤ 549755813888)
    {t : St σ} (ht : t.go = true) (hf : FineR live bud L t) (hcnt : cnt t.s + 512 * (q + 1) ≤ Q)
    (hN : N1 ≤ W1.heap.size) (hl : N1 ≤ l) (hlr : RecAt W1 l r .ready none) (hlb : l ≠ Bl) (hBs : BoxS W1 Bs virt ((lev : Int) - 1) x why) (hBsn : N1 ≤ Bs) (hBsl : Bs ≠ Bl) (hBm : W1.cell? ⟨Bm, 0, none⟩ = some (.iface T u)) (hBmn : N1 ≤ Bm) (hBml : Bm ≠ Bl) (hBl : N1 ≤ Bl) (hle : LeftAt W1 Bl t.left) (hI : I t.s W1)
    (hround : ∀ (t' : St σ) (y : Slt) (W : World), t'.go = true → FineR live bud L t' → y.1 < 549755813888 → y.1 + rch lev ≤ 549755813888 → y.2.1 = lev → y.2.2.1.1 + 4096 ≤ 18446744073709551616 → cnt t'.s + q ≤ Q → KeepsR (fun k => Z k ∨ k = Bl) W1 W → LeftAt W Bl t'.left → I t'.s W →
      YieldAt Fence.wide (n - 1) Tryz.prog l #[SltV y.1 (y.2.1 : Int) y.2.2.1 y.2.2.2] W (RvR I (fun k => Z k ∨ k = Bl) Bl l r W1 (aft yd ct deep t' y))) :
    CallsIn Fence.wide n Tryz.prog 78 #[.func (.yield l) #[] #[], .pointer (some ⟨Bs, 0, none⟩), .pointer (some ⟨Bm, 0, none⟩)] W1
      (IterP l r (RvD I (fun k => Z k ∨ k = Bl) Bl l W1 (if x.2.1 then tabN lk yd ct deep x.1 virt lev 512 t else t)) (RvS I (fun k => Z k ∨ k = Bl) l W1 (if x.2.1 then tabN lk yd ct deep x.1 virt lev 512 t else t))) := by
  by_cases hx : x.2.1 = true
  · rw [if_pos hx]
    exact level_r E hdc hdf hlev hx hxf hv ht hf hcnt hN hl hlr hlb hBs hBsn hBsl hBm hBmn hBml hBl hle hI hround
  · rw [if_neg hx]
    refine (below1_no n l Bs Bm virt ((lev : Int) - 1) x why W1 (by simpa using hx) hBs).mono ?_
    rintro e W' ⟨he, rfl⟩
    exact ⟨he, .inl ⟨hlr, ht, E.abides _ _ _ hI (BelowR.recAt hl hlr), hle.keeps (Keeps.putObj W' l _) (fun e => hlb e.symm), (KeepsR.putObj W' l _).mono (fun _ _ h => .inr h)⟩⟩
/-- a round's end -/
theorem round_finr (E : RvEnv lk yd ct live bud L0 cnt Q I Z N1 l0 T u) {Bl l : Nat} {r : Loop} {W1 V0 V5 : World} {o : Obj} {t : St σ} (hl : N1 ≤ l) (hlb : l ≠ Bl) (hN : N1 ≤ W1.heap.size) (hlr : RecAt W1 l r .ready none) (hk0 : KeepsR (fun k => Z k ∨ k = Bl) W1 V0) (hk : KeepsR (fun k => Z k ∨ k = Bl) ((V0.alloc o).putObj l (.loop (recS r .busy none))) V5) (hI : I t.s V5) :
    RecAt V5 l r .busy none ∧ (t.go = true → LeftAt V5 Bl t.left → RvR I (fun k => Z k ∨ k = Bl) Bl l r W1 t (.returned (.bool true)) (V5.putObj l (.loop (recS r .ready none)))) ∧ (t.go = false → RvR I (fun k => Z k ∨ k = Bl) Bl l r W1 t (.returned (.bool false)) (V5.putObj l (.loop (recS r .done (some .ret))))) := by
  have hnY : ¬ (Z l ∨ l = Bl) := fun h => h.elim (fun hz => by have := E.zlt l hz; omega) hlb
  have hlt : l < (V0.alloc o).heap.size := by have := hlr.lt; have := hk0.size; simp; omega
  have hb : RecAt V5 l r .busy none := RecAt.keepsR (W := (V0.alloc o).putObj l (.loop (recS r .busy none))) (World.putObj_heap_same hlt) hk hnY
  have hall : KeepsR (fun k => (Z k ∨ k = Bl) ∨ k = l) W1 V5 :=
    (((hk0.mono (S' := fun k => (Z k ∨ k = Bl) ∨ k = l) (fun _ _ h => .inl h)).trans (KeepsR.alloc (S := fun _ => False) V0 o) (fun _ _ h => h.elim)).trans (KeepsR.putObj _ l _) (fun _ _ h => .inr h)).trans hk (fun _ _ h => .inl h)
  have hsz : N1 ≤ V5.heap.size := Nat.le_trans hN hall.size
  refine ⟨hb, fun hg hle => ⟨by rw [hg], E.abides _ _ _ hI (BelowR.recAt hl hb), fun _ => ⟨hall.back hlr, hle.keeps (Keeps.putObj V5 l _) (fun e => hlb e.symm)⟩, fun h => (by rw [hg] at h; cases h)⟩, fun hg => ⟨by rw [hg], E.abides _ _ _ hI (BelowR.recAt hl hb), fun h => (by rw [hg] at h; cases h), fun _ => ⟨World.putObj_heap_same hb.lt, hall.trans (KeepsR.putObj V5 l _) (fun _ _ h => .inr h)⟩⟩⟩
def RvE (I : σ → World → Prop) (Y : Nat → Prop) (Bl : Nat) (W1 : World) (t : St σ) (W : World) : Prop := t.go = true ∧ I t.s W ∧ LeftAt W Bl t.left ∧ KeepsR Y W1 W
def RvF (I : σ → World → Prop) (Y : Nat → Prop) (W1 : World) (t : St σ) (c : Code) (W : World) : Prop := c = .ret ∧ t.go = false ∧ I t.s W ∧ KeepsR Y W1 W
set_option maxRecDepth 100000 in
set_option maxHeartbeats 4000000 in
theorem leaves1_r (E : RvEnv lk yd ct live bud L0 cnt Q I Z N1 l0 T u) {n Bm Bo Br root most : Nat} {W : World} {s0 : σ} (hn : 10 ≤ n) (hN : W.heap.size = N1) (hBm : W.cell? ⟨Bm, 0, none⟩ = some (.iface T u)) (hBmz : ¬ Z Bm) (hBo : W.cell? ⟨Bo, 0, none⟩ = some (.int .i64 (most : Int))) (hBr : W.cell? ⟨Br, 0, none⟩ = some (.int .u64 (root : Int))) (hroot : root % 4096 = 0) (hr : root + 4096 ≤ 18446744073709551616) (h1 : 1 ≤ most) (h2 : most ≤ 9223372036854775807) (h3 : most ≤ L0) (hb0 : bud s0 = 0) (hQ : cnt s0 + 134480384 ≤ Q) (hlive : live s0) (hI : I s0 W) :
    CallsIn Fence.wide n Tryz.prog 48 #[.func (.yield l0) #[] #[], .pointer (some ⟨Bm, 0, none⟩), .pointer (some ⟨Bo, 0, none⟩), .pointer (some ⟨Br, 0, none⟩)] W fun e W' => (∃ v, e = .returned v) ∧ I (allS lk yd ct root { s := s0, left := most, go := true }).s W' ∧ KeepsR Z W W' := by
  have HE := Lib.hid E
  have HI := Lib.hid hI
  have HQ := Lib.hid hQ
  have HN := Lib.hid hN
  clear E hI hQ hN
  have hbm : Bm < W.heap.size := World.block_lt_of_cell? W _ hBm
  have hbo : Bo < W.heap.size := World.block_lt_of_cell? W _ hBo
  have hbr : Br < W.heap.size := World.block_lt_of_cell? W _ hBr
  have hi0 : (root : Int) % 4096 = 0 := by omega
  have hmx : Tryz.prog.follows .mixedOrders = true := by kernel_rfl
  have HSb : Hid (∀ w, Calls Tryz.prog 52 #[SltV 0 (-1) (root, true, false, false, false) 0, .iface T u] w fun e w' => e = .returned (.func (.func 78) #[] #[.pointer (some ⟨w.heap.size, 0, none⟩), .pointer (some ⟨w.heap.size + 1, 0, none⟩)]) ∧ BoxS w' w.heap.size 0 (-1) (root, true, false, false, false) 0 ∧ w'.cell? ⟨w.heap.size + 1, 0, none⟩ = some (.iface T u) ∧ w'.heap.size = w.heap.size + 2 ∧ Below w.heap.size w w') := fun w => sbelow_any 0 (-1) (root, true, false, false, false) 0 T u w
  dsimp only [SltV] at HSb
  refine callsIn_of_wp_marks Tryz.func48 rfl trivial ?_ rfl
  simp only [Tryz.ntmps48, List.size_toArray, List.length_cons, List.length_nil, Nat.reduceAdd, Nat.reduceSub, Array.replicate_succ, Array.replicate_zero, List.push_toArray, List.append_toArray, List.nil_append, List.cons_append]
  refine wpIn_wide.2 ?_
  go_upto_region 5 with fail
  obtain ⟨W4, hW4⟩ : ∃ W4, (W.alloc (Obj.cells #[.func (.yield l0) #[] #[]] 111)).alloc (Obj.cells #[.int .i64 (most : Int)] 3) = W4 := ⟨_, rfl⟩
  have HB4 := Lib.hid (show Below W.heap.size W W4 from hW4 ▸ ((Below.refl _ W).alloc (Nat.le_refl _) _).alloc (by simp) _)
  have HL4 : Hid (LeftAt W4 (W.heap.size + 1) most) := by
    have := World.alloc_heap_new (W.alloc (Obj.cells #[.func (.yield l0) #[] #[]] 111)) (Obj.cells #[.int .i64 (most : Int)] 3)
    rw [World.size_alloc, hW4] at this
    exact this
  have hs4 : W4.heap.size = W.heap.size + 2 := by rw [← hW4]; simp
  have HY4 : Hid (W4.cell? ⟨W.heap.size, 0, none⟩ = some (.func (.yield l0) #[] #[])) := by
    show _ = _
    rw [← hW4]
    simp
  rw [hW4]
  clear hW4
  have HS4 := Lib.hid hs4
  have hbm4 : Bm < W4.heap.size := by omega
  have hbr4 : Br < W4.heap.size := by omega
  clear hs4
  have hBm4 : W4.cell? ⟨Bm, 0, none⟩ = some (.iface T u) := (HB4.out.cell (p := ⟨Bm, 0, none⟩) hbm).trans hBm
  have hBr4 : W4.cell? ⟨Br, 0, none⟩ = some (.int .u64 (root : Int)) := (HB4.out.cell (p := ⟨Br, 0, none⟩) hbr).trans hBr
  have HBm := Lib.hid hBm
  clear hBo hBr hBm hbo hbr
  obtain ⟨N, hNW⟩ : ∃ N, N = W.heap.size := ⟨_, rfl⟩
  have HNW := Lib.hid hNW
  rw [← hNW] at HL4 HY4 ⊢
  clear hNW
  go_wp2_with (first | (go_at_call 52; refine (HSb.out _).mono ?_; rintro e w1 ⟨rfl, hb1, hm1, hs1, hB1⟩))
  simp only [World.size_alloc] at hb1 hm1 hs1
  have HB6 : Hid (Below W4.heap.size W4 w1) := (((Below.refl _ W4).alloc (Nat.le_refl _) _).alloc (by simp) _).trans (hB1.mono (by simp; omega))
  have HF6 : Hid (w1.cell? ⟨W4.heap.size, 0, none⟩ = some (.func (.func 50) #[] #[.pointer (some ⟨N + 1, 0, none⟩), .pointer (some ⟨N, 0, none⟩)])) := (hB1.cell (p := ⟨W4.heap.size, 0, none⟩) (by simp; omega)).trans (by simp)
  have HW6 := Lib.hid hb1
  have HC6 := Lib.hid hm1
  have HS6 := Lib.hid hs1
  clear hb1 hm1 hs1 hB1 hBm4 hBr4 hbm4 hbr4
  have HY6 : Hid (w1.cell? ⟨N, 0, none⟩ = some (.func (.yield l0) #[] #[])) := (HB6.out.cell (p := ⟨N, 0, none⟩) (by have := HNW.out; have := HS4.out; show N < _; omega)).trans HY4.out
  have HM6 : Hid (w1.cell? ⟨Bm, 0, none⟩ = some (.iface T u)) := (HB6.out.cell (p := ⟨Bm, 0, none⟩) (by have := HS4.out; show Bm < _; omega)).trans ((HB4.out.cell (p := ⟨Bm, 0, none⟩) hbm).trans HBm.out)
  have HL6 : Hid (LeftAt w1 (N + 1) most) := HL4.out.below HB6.out
  have HI6 : Hid (I s0 w1) := HE.out.abides _ _ _ HI.out (BelowR.of_below (HB4.out.trans (HB6.out.mono HB4.out.size)))
  have HK6 : Hid (Below W.heap.size W w1) := HB4.out.trans (HB6.out.mono HB4.out.size)
  obtain ⟨M, hM⟩ : ∃ M, M = W4.heap.size := ⟨_, rfl⟩
  have HMN : Hid (M = N + 2 ∧ N = N1 ∧ Bm < N) := by
    show _ ∧ _ ∧ _
    have := HS4.out
    have := HNW.out
    have := HN.out
    omega
  rw [← hM] at HF6 HW6 HC6 HS6 ⊢
  clear hM HB6 HB4 HY4 HL4 HI HSb HS4 HBm
  clear hbm
  have hnY : ∀ k, N1 ≤ k → k ≠ N + 1 → ¬ (Z k ∨ k = N + 1) := fun k h1 h2 h => h.elim (fun hz => by have := HE.out.zlt k hz; omega) h2
  have HnY := Lib.hid hnY
  clear hnY
  have HBase : Hid (∀ V, KeepsR (fun k => Z k ∨ k = N + 1) w1 V → V.cell? ⟨M, 0, none⟩ = some (.func (.func 50) #[] #[.pointer (some ⟨N + 1, 0, none⟩), .pointer (some ⟨N, 0, none⟩)]) ∧ V.cell? ⟨N, 0, none⟩ = some (.func (.yield l0) #[] #[]) ∧ V.cell? ⟨Bm, 0, none⟩ = some (.iface T u)) := fun V hk => by
    have := HMN.out
    exact ⟨hk.cell' HF6.out (fun _ _ h => by cases h) (HnY.out M (by omega) (by omega)), hk.cell' HY6.out (fun _ _ h => by cases h) (HnY.out N (by omega) (by omega)), hk.cell' HM6.out (fun _ _ h => by cases h) (fun h => h.elim hBmz (fun e => by omega))⟩
  refine (wpIn_wide (n := n)).1 ?_
  refine range_out (F := Fence.wide) rfl (by omega) (gf := 78) (lb := #[.pointer (some ⟨M + 1 + 1, 0, none⟩), .pointer (some ⟨M + 1 + 1 + 1, 0, none⟩)]) rfl trivial (enters_of Tryz.func78 (by kernel_rfl) rfl)
    (fun V => RvE I (fun k => Z k ∨ k = N + 1) (N + 1) w1 (allS lk yd ct root { s := s0, left := most, go := true }) V ∧ V.heap[w1.heap.size]? = some (.deferred (some [])))
    (fun c V => RvF I (fun k => Z k ∨ k = N + 1) w1 (allS lk yd ct root { s := s0, left := most, go := true }) c V ∧ V.heap[w1.heap.size]? = some (.deferred (some []))) ?it ?fin ?stop
  case fin =>
    rintro V ⟨⟨d1, d2, d3, d4⟩, d5⟩
    gi_wp2
    refine ⟨by simp, .inl ⟨_, _, rfl, run_takeDeferred d5, ?_⟩⟩
    have hmn := HMN.out
    have hs6 := HS6.out
    have hnn := HN.out
    have hkk := HK6.out.size
    have hvv := d4.size
    refine ⟨_, results_none rfl _ _ _, ⟨_, rfl⟩, HE.out.abides _ _ _ d2 (BelowR.putObj (by omega) d5 not_rowO_deferred), ?_⟩
    exact ((KeepsR.of_below (S := Z) HK6.out).trans d4 (fun i hi h => h.elim id (fun e => by omega))).trans (KeepsR.putObj V w1.heap.size _) (fun i hi e => by omega)
  case stop =>
    rintro c V ⟨⟨rfl, d1, d2, d4⟩, d5⟩
    gi_wp2
    refine ⟨by simp, .inl ⟨_, _, rfl, run_takeDeferred d5, ?_⟩⟩
    have hmn := HMN.out
    have hs6 := HS6.out
    have hnn := HN.out
    have hkk := HK6.out.size
    have hvv := d4.size
    refine ⟨_, results_none rfl _ _ _, ⟨_, rfl⟩, HE.out.abides _ _ _ d2 (BelowR.putObj (by omega) d5 not_rowO_deferred), ?_⟩
    exact ((KeepsR.of_below (S := Z) HK6.out).trans d4 (fun i hi h => h.elim id (fun e => by omega))).trans (KeepsR.putObj V w1.heap.size _) (fun i hi e => by omega)
  case it =>
    intro W1 r1 _ hrt1 hrp1 hra1 hrb1 hW1
    obtain ⟨l1, hl1⟩ : ∃ l, l = w1.heap.size + 1 := ⟨_, rfl⟩
    have HR1 : Hid (RecAt W1 l1 r1 .ready none) := by
      have := World.alloc_heap_new (w1.alloc (.deferred (some []))) (.loop (recS r1 .ready none))
      rw [World.size_alloc, ← hW1, ← hl1] at this
      exact this
    have HD1 : Hid (W1.heap[w1.heap.size]? = some (.deferred (some []))) := by
      show _ = _
      rw [hW1, Below.heap_alloc _ _ _ (by simp)]
      exact World.alloc_heap_new _ _
    have HB1 : Hid (Below w1.heap.size w1 W1) := hW1 ▸ (((Below.refl _ w1).alloc (Nat.le_refl _) _).alloc (by simp) _)
    clear hW1
    have HKw1 : Hid (KeepsR (fun k => Z k ∨ k = N + 1) w1 W1) := KeepsR.of_below HB1.out
    have HAr1 : Hid (M = N + 2 ∧ N = N1 ∧ Bm < N ∧ w1.heap.size = M + 4 ∧ w1.heap.size ≤ l1 ∧ l1 < W1.heap.size ∧ l1 = w1.heap.size + 1) := by
      show _ ∧ _
      have := HMN.out
      have := HS6.out
      have := HR1.out.lt
      omega
    rw [← hl1]
    clear hl1
    refine (level_r HE.out (deep := deep1 lk yd ct) (q := 262656) (L := most) (cnt1 (ct := ct) HE.out.cl HE.out.cy) (finer1 HE.out.lives) (virt := 0) (lev := 0) (x := (root, true, false, false, false)) (why := 0) (by omega) rfl hr (by decide) (t := { s := s0, left := most, go := true }) rfl ⟨fun _ => h1, by show bud s0 + most ≤ most; omega, fun _ => hlive⟩ (by have := HQ.out; show cnt s0 + 134480384 ≤ Q; omega) (by have := HAr1.out; omega) (by have := HAr1.out; omega) HR1.out (by have := HAr1.out; omega) (HW6.out.below HB1.out) (by have := HAr1.out; omega) (by have := HAr1.out; omega) ((HB1.out.cell (p := ⟨M + 1 + 1 + 1, 0, none⟩) (by have := HAr1.out; show M + 1 + 1 + 1 < _; omega)).trans HC6.out) (by have := HAr1.out; omega) (by have := HAr1.out; omega) (by have := HAr1.out; omega) (HL6.out.below HB1.out) (HE.out.abides _ _ _ HI6.out (BelowR.of_below HB1.out)) ?round).mono (IterP.imp ?_ ?_)
    case round =>
      --ROUNDS
      intro t1 y V1 hgo1 hfiner1 hy11 hyr1 hylev1 hyf1 hcnt1 hk0 hle hIt
      obtain ⟨yv1, ylv, ⟨f01, b11, b21, b31, b41⟩, wy1⟩ := y
      dsimp only at hy11 hyr1 hylev1 hyf1
      subst hylev1
      have hrec0 : RecAt V1 l1 r1 .ready none := HR1.out.keepsR hk0 (HnY.out _ (by have := HAr1.out; omega) (by have := HAr1.out; omega))
      have HK10 := Lib.hid hk0
      have HL10 := Lib.hid hle
      have HI10 := Lib.hid hIt
      have hsz1 : l1 < V1.heap.size := Nat.lt_of_lt_of_le HR1.out.lt hk0.size
      clear hk0 hle hIt
      refine yield_of (F := Fence.wide) hrec0 (by rw [hrp1]; rfl) trivial ?_
      rw [hra1, hrt1, hrp1]
      have HRec1 := Lib.hid hrec0
      clear hrec0
      dsimp only [SltV]
      gi_wp2
      refine ⟨(Below.heap_alloc V1 _ _ HRec1.out.lt).trans HRec1.out, ?_⟩
      intro hbusy
      try rw [hrb1]
      have HKv1 : Hid (KeepsR (fun k => Z k ∨ k = N + 1) w1 ((V1.alloc (Obj.cells #[.int .u64 (yv1 : Int), .int .i64 0, .int .u64 (f01 : Int), .bool b11, .bool b21, .bool b31, .bool b41, .int .i64 wy1] 114)).putObj l1 (.loop (recS r1 .busy none)))) := ((HKw1.out.trans HK10.out (fun _ _ h => h)).trans (KeepsR.alloc (S := fun _ => False) _ _) (fun _ _ h => h.elim)).trans (KeepsR.putObj _ l1 _) (fun i hi e => by have := HAr1.out; omega)
      have HBx1 : Hid (BoxS ((V1.alloc (Obj.cells #[.int .u64 (yv1 : Int), .int .i64 0, .int .u64 (f01 : Int), .bool b11, .bool b21, .bool b31, .bool b41, .int .i64 wy1] 114)).putObj l1 (.loop (recS r1 .busy none))) V1.heap.size yv1 0 (f01, b11, b21, b31, b41) wy1) := (BoxS.new V1 yv1 0 (f01, b11, b21, b31, b41) wy1).keeps (Keeps.putObj _ l1 _) (by omega)
      have HLv1 : Hid (LeftAt ((V1.alloc (Obj.cells #[.int .u64 (yv1 : Int), .int .i64 0, .int .u64 (f01 : Int), .bool b11, .bool b21, .bool b31, .bool b41, .int .i64 wy1] 114)).putObj l1 (.loop (recS r1 .busy none))) (N + 1) t1.left) := (HL10.out.below ((Below.refl _ _).alloc (Nat.le_refl _) _)).keeps (Keeps.putObj _ l1 _) (by have := HAr1.out; omega)
      have HIv1 : Hid (I t1.s ((V1.alloc (Obj.cells #[.int .u64 (yv1 : Int), .int .i64 0, .int .u64 (f01 : Int), .bool b11, .bool b21, .bool b31, .bool b41, .int .i64 wy1] 114)).putObj l1 (.loop (recS r1 .busy none)))) := HE.out.abides _ _ _ (HE.out.abides _ _ _ HI10.out (BelowR.alloc _ _)) (BelowR.recAt (by have := HAr1.out; omega) (show RecAt (V1.alloc _) l1 r1 .ready none from (Below.heap_alloc V1 _ _ HRec1.out.lt).trans HRec1.out))
      have HFin1 : Hid (∀ V5 (tt : St σ), KeepsR (fun k => Z k ∨ k = N + 1) ((V1.alloc (Obj.cells #[.int .u64 (yv1 : Int), .int .i64 0, .int .u64 (f01 : Int), .bool b11, .bool b21, .bool b31, .bool b41, .int .i64 wy1] 114)).putObj l1 (.loop (recS r1 .busy none))) V5 → I tt.s V5 → _) := fun V5 tt hk hI => round_finr (t := tt) HE.out (by have := HAr1.out; omega) (by have := HAr1.out; omega) (by have := HAr1.out; omega) HR1.out HK10.out hk hI
      have hsb1 : V1.heap.size + 1 = ((V1.alloc (Obj.cells #[.int .u64 (yv1 : Int), .int .i64 0, .int .u64 (f01 : Int), .bool b11, .bool b21, .bool b31, .bool b41, .int .i64 wy1] 114)).putObj l1 (.loop (recS r1 .busy none))).heap.size := by simp
      have HRb1 := Lib.hid hbusy
      clear hbusy
      obtain ⟨Vb1, hVb⟩ : ∃ Vb, (V1.alloc (Obj.cells #[.int .u64 (yv1 : Int), .int .i64 0, .int .u64 (f01 : Int), .bool b11, .bool b21, .bool b31, .bool b41, .int .i64 wy1] 114)).putObj l1 (.loop (recS r1 .busy none)) = Vb := ⟨_, rfl⟩
      rw [hVb] at HKv1 HBx1 HLv1 HIv1 HFin1 HRb1 hsb1 ⊢
      clear hVb
      have HSb1 := Lib.hid hsb1
      clear hsb1
      have HFu : Hid (CallsIn Fence.wide _ Tryz.prog 50 _ Vb1 _) := further_r HE.out (n := n - 2 - 1) (L := most) t1 (yv1, 0, (f01, b11, b21, b31, b41), wy1) Vb1 hgo1 hfiner1 h2 h3 hy11 (by show 0 ≤ 2; decide) hyf1 (by have := HAr1.out; have := HSb1.out; omega) (by have := HMN.out; omega : N1 ≤ N + 1) (by omega : N ≠ N + 1) HLv1.out HIv1.out (HBase.out _ HKv1.out).2.1
      dsimp only [SltV] at HFu
      obtain ⟨tv1, htv1⟩ : ∃ tv, tv = visitS yd ct t1 (yv1, 0, (f01, b11, b21, b31, b41), wy1) := ⟨_, rfl⟩
      rw [← htv1] at HFu
      obtain ⟨x0, x1, x2, x3, x4, x5, x6, x7⟩ := HBx1.out.cells
      dsimp only at x0 x1 x2 x3 x4 x5 x6 x7
      obtain ⟨cF, cY, cM⟩ := HBase.out _ HKv1.out
      cases hg1 : tv1.go
      · rw [hg1] at HFu
        gi_wp2_with (refine ⟨trivial, fun h => absurd h (by decide), ?_⟩; refine (CallsIn.inRound l1 HFu.out).mono ?_; rintro e V5 ⟨rfl, hl5, hI5, hk5⟩)
        obtain ⟨q1, q2, q3⟩ := HFin1.out V5 tv1 hk5 hI5
        refine ⟨q1, ?_⟩
        rw [aft_stop (by rw [← htv1]; exact hg1), ← htv1]
        exact q3 hg1
      · rw [hg1] at HFu
        have hT1 : aft yd ct (deep1 lk yd ct) t1 (yv1, 0, (f01, b11, b21, b31, b41), wy1) = (if b11 then tabN lk yd ct (deep2 lk yd ct) f01 yv1 1 512 tv1 else tv1) := by rw [aft_on (by rw [← htv1]; exact hg1), ← htv1]; rfl
        obtain ⟨T1, hTT1⟩ : ∃ Tt, Tt = (if b11 then tabN lk yd ct (deep2 lk yd ct) f01 yv1 1 512 tv1 else tv1) := ⟨_, rfl⟩
        rw [hT1, ← hTT1]
        have HTT1 := Lib.hid hTT1
        have HTv1 := Lib.hid htv1
        clear hT1 hTT1 htv1
        have HSl : Hid (∀ w, Calls Tryz.prog 52 #[SltV yv1 0 (f01, b11, b21, b31, b41) wy1, .iface T u] w fun e w' => e = .returned (.func (.func 78) #[] #[.pointer (some ⟨w.heap.size, 0, none⟩), .pointer (some ⟨w.heap.size + 1, 0, none⟩)]) ∧ BoxS w' w.heap.size yv1 0 (f01, b11, b21, b31, b41) wy1 ∧ w'.cell? ⟨w.heap.size + 1, 0, none⟩ = some (.iface T u) ∧ w'.heap.size = w.heap.size + 2 ∧ Below w.heap.size w w') := fun w => sbelow_any yv1 0 (f01, b11, b21, b31, b41) wy1 T u w
        dsimp only [SltV] at HSl
        gi_wp2_with (first
          | (refine ⟨trivial, fun h => absurd h (by decide), ?_⟩; refine (CallsIn.inRound l1 HFu.out).mono ?_; rintro e Vf1 ⟨rfl, hl5, hI5, hk5⟩; clear HFu; have HLf1 := Lib.hid hl5; have HIf1 := Lib.hid hI5; have HKf1 := Lib.hid hk5; clear hl5 hI5 hk5; clear x0 x1 x2 x3 x4 x5 x6 x7 cF cY cM; obtain ⟨x0, x1, x2, x3, x4, x5, x6, x7⟩ := (HBx1.out.keepsR HKf1.out (HnY.out _ (by have := HAr1.out; omega) (by have := HAr1.out; omega))).cells; dsimp only at x0 x1 x2 x3 x4 x5 x6 x7; obtain ⟨cF, cY, cM⟩ := HBase.out _ (HKv1.out.trans HKf1.out (fun _ _ h => h)))
          | (refine ⟨trivial, fun h => absurd h (by decide), ?_⟩; refine (CallsIn.inRound l1 (callsIn_wide.2 (HSl.out _))).mono ?_; rintro e Vs1 ⟨rfl, hb5, hm5, hs5, hB5⟩))
        have HBs1 := Lib.hid hb5
        have HMs1 := Lib.hid hm5
        have HSs1 := Lib.hid hs5
        have HBB1 := Lib.hid hB5
        clear hb5 hm5 hs5 hB5 x0 x1 x2 x3 x4 x5 x6 x7 cF cY cM HSl
        have HKs1 : Hid (KeepsR (fun k => Z k ∨ k = N + 1) Vb1 Vs1) := HKf1.out.trans (KeepsR.of_below (S := fun _ => False) HBB1.out) (fun _ _ h => h.elim)
        have HLs1 : Hid (LeftAt Vs1 (N + 1) tv1.left) := HLf1.out.below HBB1.out
        have HIs1 : Hid (I tv1.s Vs1) := HE.out.abides _ _ _ HIf1.out (BelowR.of_below HBB1.out)
        refine range_in (F := Fence.wide.inRound l1) (l₀ := l1) (r₀ := recS r1 .busy none) rfl (HRb1.out.keepsR HKs1.out (HnY.out _ (by have := HAr1.out; omega) (by have := HAr1.out; omega))) (by omega) (gf := 78) (lb := #[.pointer (some ⟨Vf1.heap.size, 0, none⟩), .pointer (some ⟨Vf1.heap.size + 1, 0, none⟩)]) rfl trivial (enters_of Tryz.func78 (by kernel_rfl) rfl)
          (RvE I (fun k => Z k ∨ k = N + 1) (N + 1) Vs1 T1) (RvF I (fun k => Z k ∨ k = N + 1) Vs1 T1) ?it ?fin ?stop
        case fin =>
          rintro V5 ⟨hg5, hI5, hl5, hk5⟩
          gi_wp2
          obtain ⟨q1, q2, q3⟩ := HFin1.out V5 _ (HKs1.out.trans hk5 (fun _ _ h => h)) hI5
          exact ⟨q1, q2 hg5 hl5⟩
        case stop =>
          rintro c V5 ⟨rfl, hg5, hI5, hk5⟩
          gi_wp2
          obtain ⟨q1, q2, q3⟩ := HFin1.out V5 _ (HKs1.out.trans hk5 (fun _ _ h => h)) hI5
          exact ⟨q1, q3 hg5⟩
        case it =>
          intro W2 r2 _ hrt2 hrp2 hra2 hrb2 hW
          obtain ⟨l2, hl2⟩ : ∃ l, l = Vs1.heap.size := ⟨_, rfl⟩
          have HR2 : Hid (RecAt W2 l2 r2 .ready none) := by
            have := World.alloc_heap_new Vs1 (.loop (recS r2 .ready none))
            rw [← hW, ← hl2] at this
            exact this
          have HBW2 : Hid (Below Vs1.heap.size Vs1 W2) := hW ▸ (Below.refl _ Vs1).alloc (Nat.le_refl _) _
          clear hW
          have HKw2 : Hid (KeepsR (fun k => Z k ∨ k = N + 1) w1 W2) := (HKv1.out.trans HKs1.out (fun _ _ h => h)).trans (KeepsR.of_below (S := fun _ => False) HBW2.out) (fun _ _ h => h.elim)
          have HAr2 : Hid (M = N + 2 ∧ N = N1 ∧ Bm < N ∧ w1.heap.size = M + 4 ∧ w1.heap.size ≤ l2 ∧ l2 < W2.heap.size ∧ l2 = Vf1.heap.size + 2 ∧ w1.heap.size ≤ Vf1.heap.size ∧ Vs1.heap.size = l2) := by
            show _ ∧ _
            have := HAr1.out
            have := HR2.out.lt
            have := HSs1.out
            have := HKf1.out.size
            have := HKv1.out.size
            omega
          rw [← hl2]
          clear hl2
          rw [HTT1.out]
          have hcv : cnt tv1.s ≤ cnt t1.s := by rw [HTv1.out]; exact cnt_visit (ct := ct) HE.out.cy _ _
          refine CallsIn.inRound l1 ((inner_r HE.out (deep := (deep2 lk yd ct)) (q := 512) (L := most) (cnt2 (ct := ct) HE.out.cl HE.out.cy) (finer2 HE.out.lives) (virt := yv1) (lev := 1) (x := (f01, b11, b21, b31, b41)) (why := wy1) (by omega) hyf1 (by rw [show 512 * rch 1 = rch 0 from by decide]; exact hyr1) (t := tv1) hg1 (by rw [HTv1.out]; exact visit_finer HE.out.lives hgo1 hfiner1 _) (by omega) (by have := HAr2.out; omega) (by have := HAr2.out; omega) HR2.out (by have := HAr2.out; omega) (HBs1.out.below HBW2.out) (by have := HAr2.out; omega) (by have := HAr2.out; omega) ((HBW2.out.cell (p := ⟨Vf1.heap.size + 1, 0, none⟩) (by have := HAr2.out; show Vf1.heap.size + 1 < _; omega)).trans HMs1.out) (by have := HAr2.out; omega) (by have := HAr2.out; omega) (by have := HAr2.out; omega) (HLs1.out.below HBW2.out) (HE.out.abides _ _ _ HIs1.out (BelowR.of_below HBW2.out)) ?round).mono (IterP.imp ?_ ?_))
          case round =>
            intro t2 y V2 hgo2 hfiner2 hy12 hyr2 hylev2 hyf2 hcnt2 hk0 hle hIt
            obtain ⟨yv2, ylv, ⟨f02, b12, b22, b32, b42⟩, wy2⟩ := y
            dsimp only at hy12 hyr2 hylev2 hyf2
            subst hylev2
            have hrec0 : RecAt V2 l2 r2 .ready none := HR2.out.keepsR hk0 (HnY.out _ (by have := HAr2.out; omega) (by have := HAr2.out; omega))
            have HK20 := Lib.hid hk0
            have HL20 := Lib.hid hle
            have HI20 := Lib.hid hIt
            have hsz2 : l2 < V2.heap.size := Nat.lt_of_lt_of_le HR2.out.lt hk0.size
            clear hk0 hle hIt
            refine yield_of (F := Fence.wide) hrec0 (by rw [hrp2]; rfl) trivial ?_
            rw [hra2, hrt2, hrp2]
            have HRec2 := Lib.hid hrec0
            clear hrec0
            dsimp only [SltV]
            gi_wp2
            refine ⟨(Below.heap_alloc V2 _ _ HRec2.out.lt).trans HRec2.out, ?_⟩
            intro hbusy
            try rw [hrb2]
            have HKv2 : Hid (KeepsR (fun k => Z k ∨ k = N + 1) w1 ((V2.alloc (Obj.cells #[.int .u64 (yv2 : Int), .int .i64 1, .int .u64 (f02 : Int), .bool b12, .bool b22, .bool b32, .bool b42, .int .i64 wy2] 114)).putObj l2 (.loop (recS r2 .busy none)))) := ((HKw2.out.trans HK20.out (fun _ _ h => h)).trans (KeepsR.alloc (S := fun _ => False) _ _) (fun _ _ h => h.elim)).trans (KeepsR.putObj _ l2 _) (fun i hi e => by have := HAr2.out; omega)
            have HBx2 : Hid (BoxS ((V2.alloc (Obj.cells #[.int .u64 (yv2 : Int), .int .i64 1, .int .u64 (f02 : Int), .bool b12, .bool b22, .bool b32, .bool b42, .int .i64 wy2] 114)).putObj l2 (.loop (recS r2 .busy none))) V2.heap.size yv2 1 (f02, b12, b22, b32, b42) wy2) := (BoxS.new V2 yv2 1 (f02, b12, b22, b32, b42) wy2).keeps (Keeps.putObj _ l2 _) (by omega)
            have HLv2 : Hid (LeftAt ((V2.alloc (Obj.cells #[.int .u64 (yv2 : Int), .int .i64 1, .int .u64 (f02 : Int), .bool b12, .bool b22, .bool b32, .bool b42, .int .i64 wy2] 114)).putObj l2 (.loop (recS r2 .busy none))) (N + 1) t2.left) := (HL20.out.below ((Below.refl _ _).alloc (Nat.le_refl _) _)).keeps (Keeps.putObj _ l2 _) (by have := HAr2.out; omega)
            have HIv2 : Hid (I t2.s ((V2.alloc (Obj.cells #[.int .u64 (yv2 : Int), .int .i64 1, .int .u64 (f02 : Int), .bool b12, .bool b22, .bool b32, .bool b42, .int .i64 wy2] 114)).putObj l2 (.loop (recS r2 .busy none)))) := HE.out.abides _ _ _ (HE.out.abides _ _ _ HI20.out (BelowR.alloc _ _)) (BelowR.recAt (by have := HAr2.out; omega) (show RecAt (V2.alloc _) l2 r2 .ready none from (Below.heap_alloc V2 _ _ HRec2.out.lt).trans HRec2.out))
            have HFin2 : Hid (∀ V5 (tt : St σ), KeepsR (fun k => Z k ∨ k = N + 1) ((V2.alloc (Obj.cells #[.int .u64 (yv2 : Int), .int .i64 1, .int .u64 (f02 : Int), .bool b12, .bool b22, .bool b32, .bool b42, .int .i64 wy2] 114)).putObj l2 (.loop (recS r2 .busy none))) V5 → I tt.s V5 → _) := fun V5 tt hk hI => round_finr (t := tt) HE.out (by have := HAr2.out; omega) (by have := HAr2.out; omega) (by have := HAr2.out; omega) HR2.out HK20.out hk hI
            have hsb2 : V2.heap.size + 1 = ((V2.alloc (Obj.cells #[.int .u64 (yv2 : Int), .int .i64 1, .int .u64 (f02 : Int), .bool b12, .bool b22, .bool b32, .bool b42, .int .i64 wy2] 114)).putObj l2 (.loop (recS r2 .busy none))).heap.size := by simp
            have HRb2 := Lib.hid hbusy
            clear hbusy
            obtain ⟨Vb2, hVb⟩ : ∃ Vb, (V2.alloc (Obj.cells #[.int .u64 (yv2 : Int), .int .i64 1, .int .u64 (f02 : Int), .bool b12, .bool b22, .bool b32, .bool b42, .int .i64 wy2] 114)).putObj l2 (.loop (recS r2 .busy none)) = Vb := ⟨_, rfl⟩
            rw [hVb] at HKv2 HBx2 HLv2 HIv2 HFin2 HRb2 hsb2 ⊢
            clear hVb
            have HSb2 := Lib.hid hsb2
            clear hsb2
            have HFu : Hid (CallsIn Fence.wide _ Tryz.prog 50 _ Vb2 _) := further_r HE.out (n := n - 4 - 1) (L := most) t2 (yv2, 1, (f02, b12, b22, b32, b42), wy2) Vb2 hgo2 hfiner2 h2 h3 hy12 (by show 1 ≤ 2; decide) hyf2 (by have := HAr2.out; have := HSb2.out; omega) (by have := HMN.out; omega : N1 ≤ N + 1) (by omega : N ≠ N + 1) HLv2.out HIv2.out (HBase.out _ HKv2.out).2.1
            dsimp only [SltV] at HFu
            obtain ⟨tv2, htv2⟩ : ∃ tv, tv = visitS yd ct t2 (yv2, 1, (f02, b12, b22, b32, b42), wy2) := ⟨_, rfl⟩
            rw [← htv2] at HFu
            obtain ⟨x0, x1, x2, x3, x4, x5, x6, x7⟩ := HBx2.out.cells
            dsimp only at x0 x1 x2 x3 x4 x5 x6 x7
            obtain ⟨cF, cY, cM⟩ := HBase.out _ HKv2.out
            cases hg2 : tv2.go
            · rw [hg2] at HFu
              gi_wp2_with (refine ⟨trivial, fun h => absurd h (by decide), ?_⟩; refine (CallsIn.inRound l2 HFu.out).mono ?_; rintro e V5 ⟨rfl, hl5, hI5, hk5⟩)
              obtain ⟨q1, q2, q3⟩ := HFin2.out V5 tv2 hk5 hI5
              refine ⟨q1, ?_⟩
              rw [aft_stop (by rw [← htv2]; exact hg2), ← htv2]
              exact q3 hg2
            · rw [hg2] at HFu
              have hT2 : aft yd ct (deep2 lk yd ct) t2 (yv2, 1, (f02, b12, b22, b32, b42), wy2) = (if b12 then tabN lk yd ct deep3 f02 yv2 2 512 tv2 else tv2) := by rw [aft_on (by rw [← htv2]; exact hg2), ← htv2]; rfl
              obtain ⟨T2, hTT2⟩ : ∃ Tt, Tt = (if b12 then tabN lk yd ct deep3 f02 yv2 2 512 tv2 else tv2) := ⟨_, rfl⟩
              rw [hT2, ← hTT2]
              have HTT2 := Lib.hid hTT2
              have HTv2 := Lib.hid htv2
              clear hT2 hTT2 htv2
              have HSl : Hid (∀ w, Calls Tryz.prog 52 #[SltV yv2 1 (f02, b12, b22, b32, b42) wy2, .iface T u] w fun e w' => e = .returned (.func (.func 78) #[] #[.pointer (some ⟨w.heap.size, 0, none⟩), .pointer (some ⟨w.heap.size + 1, 0, none⟩)]) ∧ BoxS w' w.heap.size yv2 1 (f02, b12, b22, b32, b42) wy2 ∧ w'.cell? ⟨w.heap.size + 1, 0, none⟩ = some (.iface T u) ∧ w'.heap.size = w.heap.size + 2 ∧ Below w.heap.size w w') := fun w => sbelow_any yv2 1 (f02, b12, b22, b32, b42) wy2 T u w
              dsimp only [SltV] at HSl
              gi_wp2_with (first
                | (refine ⟨trivial, fun h => absurd h (by decide), ?_⟩; refine (CallsIn.inRound l2 HFu.out).mono ?_; rintro e Vf2 ⟨rfl, hl5, hI5, hk5⟩; clear HFu; have HLf2 := Lib.hid hl5; have HIf2 := Lib.hid hI5; have HKf2 := Lib.hid hk5; clear hl5 hI5 hk5; clear x0 x1 x2 x3 x4 x5 x6 x7 cF cY cM; obtain ⟨x0, x1, x2, x3, x4, x5, x6, x7⟩ := (HBx2.out.keepsR HKf2.out (HnY.out _ (by have := HAr2.out; omega) (by have := HAr2.out; omega))).cells; dsimp only at x0 x1 x2 x3 x4 x5 x6 x7; obtain ⟨cF, cY, cM⟩ := HBase.out _ (HKv2.out.trans HKf2.out (fun _ _ h => h)))
                | (refine ⟨trivial, fun h => absurd h (by decide), ?_⟩; refine (CallsIn.inRound l2 (callsIn_wide.2 (HSl.out _))).mono ?_; rintro e Vs2 ⟨rfl, hb5, hm5, hs5, hB5⟩))
              have HBs2 := Lib.hid hb5
              have HMs2 := Lib.hid hm5
              have HSs2 := Lib.hid hs5
              have HBB2 := Lib.hid hB5
              clear hb5 hm5 hs5 hB5 x0 x1 x2 x3 x4 x5 x6 x7 cF cY cM HSl
              have HKs2 : Hid (KeepsR (fun k => Z k ∨ k = N + 1) Vb2 Vs2) := HKf2.out.trans (KeepsR.of_below (S := fun _ => False) HBB2.out) (fun _ _ h => h.elim)
              have HLs2 : Hid (LeftAt Vs2 (N + 1) tv2.left) := HLf2.out.below HBB2.out
              have HIs2 : Hid (I tv2.s Vs2) := HE.out.abides _ _ _ HIf2.out (BelowR.of_below HBB2.out)
              refine range_in (F := Fence.wide.inRound l2) (l₀ := l2) (r₀ := recS r2 .busy none) rfl (HRb2.out.keepsR HKs2.out (HnY.out _ (by have := HAr2.out; omega) (by have := HAr2.out; omega))) (by omega) (gf := 78) (lb := #[.pointer (some ⟨Vf2.heap.size, 0, none⟩), .pointer (some ⟨Vf2.heap.size + 1, 0, none⟩)]) rfl trivial (enters_of Tryz.func78 (by kernel_rfl) rfl)
                (RvE I (fun k => Z k ∨ k = N + 1) (N + 1) Vs2 T2) (RvF I (fun k => Z k ∨ k = N + 1) Vs2 T2) ?it ?fin ?stop
              case fin =>
                rintro V5 ⟨hg5, hI5, hl5, hk5⟩
                gi_wp2
                obtain ⟨q1, q2, q3⟩ := HFin2.out V5 _ (HKs2.out.trans hk5 (fun _ _ h => h)) hI5
                exact ⟨q1, q2 hg5 hl5⟩
              case stop =>
                rintro c V5 ⟨rfl, hg5, hI5, hk5⟩
                gi_wp2
                obtain ⟨q1, q2, q3⟩ := HFin2.out V5 _ (HKs2.out.trans hk5 (fun _ _ h => h)) hI5
                exact ⟨q1, q3 hg5⟩
              case it =>
                intro W3 r3 _ hrt3 hrp3 hra3 hrb3 hW
                obtain ⟨l3, hl3⟩ : ∃ l, l = Vs2.heap.size := ⟨_, rfl⟩
                have HR3 : Hid (RecAt W3 l3 r3 .ready none) := by
                  have := World.alloc_heap_new Vs2 (.loop (recS r3 .ready none))
                  rw [← hW, ← hl3] at this
                  exact this
                have HBW3 : Hid (Below Vs2.heap.size Vs2 W3) := hW ▸ (Below.refl _ Vs2).alloc (Nat.le_refl _) _
                clear hW
                have HKw3 : Hid (KeepsR (fun k => Z k ∨ k = N + 1) w1 W3) := (HKv2.out.trans HKs2.out (fun _ _ h => h)).trans (KeepsR.of_below (S := fun _ => False) HBW3.out) (fun _ _ h => h.elim)
                have HAr3 : Hid (M = N + 2 ∧ N = N1 ∧ Bm < N ∧ w1.heap.size = M + 4 ∧ w1.heap.size ≤ l3 ∧ l3 < W3.heap.size ∧ l3 = Vf2.heap.size + 2 ∧ w1.heap.size ≤ Vf2.heap.size ∧ Vs2.heap.size = l3) := by
                  show _ ∧ _
                  have := HAr2.out
                  have := HR3.out.lt
                  have := HSs2.out
                  have := HKf2.out.size
                  have := HKv2.out.size
                  omega
                rw [← hl3]
                clear hl3
                rw [HTT2.out]
                have hcv : cnt tv2.s ≤ cnt t2.s := by rw [HTv2.out]; exact cnt_visit (ct := ct) HE.out.cy _ _
                refine CallsIn.inRound l2 ((inner_r HE.out (deep := deep3) (q := 0) (L := most) (cnt3) finer3 (virt := yv2) (lev := 2) (x := (f02, b12, b22, b32, b42)) (why := wy2) (by omega) hyf2 (by rw [show 512 * rch 2 = rch 1 from by decide]; exact hyr2) (t := tv2) hg2 (by rw [HTv2.out]; exact visit_finer HE.out.lives hgo2 hfiner2 _) (by omega) (by have := HAr3.out; omega) (by have := HAr3.out; omega) HR3.out (by have := HAr3.out; omega) (HBs2.out.below HBW3.out) (by have := HAr3.out; omega) (by have := HAr3.out; omega) ((HBW3.out.cell (p := ⟨Vf2.heap.size + 1, 0, none⟩) (by have := HAr3.out; show Vf2.heap.size + 1 < _; omega)).trans HMs2.out) (by have := HAr3.out; omega) (by have := HAr3.out; omega) (by have := HAr3.out; omega) (HLs2.out.below HBW3.out) (HE.out.abides _ _ _ HIs2.out (BelowR.of_below HBW3.out)) ?round).mono (IterP.imp ?_ ?_))
                case round =>
                  intro t3 y V3 hgo3 hfine3 hy13 hyr3 hylev3 hyf3 hcnt3 hk0 hle hIt
                  obtain ⟨yv3, ylv, ⟨f03, b13, b23, b33, b43⟩, wy3⟩ := y
                  dsimp only at hy13 hyr3 hylev3 hyf3
                  subst hylev3
                  have hrec0 : RecAt V3 l3 r3 .ready none := HR3.out.keepsR hk0 (HnY.out _ (by have := HAr3.out; omega) (by have := HAr3.out; omega))
                  have HK30 := Lib.hid hk0
                  have HL30 := Lib.hid hle
                  have HI30 := Lib.hid hIt
                  have hsz3 : l3 < V3.heap.size := Nat.lt_of_lt_of_le HR3.out.lt hk0.size
                  clear hk0 hle hIt
                  refine yield_of (F := Fence.wide) hrec0 (by rw [hrp3]; rfl) trivial ?_
                  rw [hra3, hrt3, hrp3]
                  have HRec3 := Lib.hid hrec0
                  clear hrec0
                  dsimp only [SltV]
                  gi_wp2
                  refine ⟨(Below.heap_alloc V3 _ _ HRec3.out.lt).trans HRec3.out, ?_⟩
                  intro hbusy
                  try rw [hrb3]
                  have HKv3 : Hid (KeepsR (fun k => Z k ∨ k = N + 1) w1 ((V3.alloc (Obj.cells #[.int .u64 (yv3 : Int), .int .i64 2, .int .u64 (f03 : Int), .bool b13, .bool b23, .bool b33, .bool b43, .int .i64 wy3] 114)).putObj l3 (.loop (recS r3 .busy none)))) := ((HKw3.out.trans HK30.out (fun _ _ h => h)).trans (KeepsR.alloc (S := fun _ => False) _ _) (fun _ _ h => h.elim)).trans (KeepsR.putObj _ l3 _) (fun i hi e => by have := HAr3.out; omega)
                  have HBx3 : Hid (BoxS ((V3.alloc (Obj.cells #[.int .u64 (yv3 : Int), .int .i64 2, .int .u64 (f03 : Int), .bool b13, .bool b23, .bool b33, .bool b43, .int .i64 wy3] 114)).putObj l3 (.loop (recS r3 .busy none))) V3.heap.size yv3 2 (f03, b13, b23, b33, b43) wy3) := (BoxS.new V3 yv3 2 (f03, b13, b23, b33, b43) wy3).keeps (Keeps.putObj _ l3 _) (by omega)
                  have HLv3 : Hid (LeftAt ((V3.alloc (Obj.cells #[.int .u64 (yv3 : Int), .int .i64 2, .int .u64 (f03 : Int), .bool b13, .bool b23, .bool b33, .bool b43, .int .i64 wy3] 114)).putObj l3 (.loop (recS r3 .busy none))) (N + 1) t3.left) := (HL30.out.below ((Below.refl _ _).alloc (Nat.le_refl _) _)).keeps (Keeps.putObj _ l3 _) (by have := HAr3.out; omega)
                  have HIv3 : Hid (I t3.s ((V3.alloc (Obj.cells #[.int .u64 (yv3 : Int), .int .i64 2, .int .u64 (f03 : Int), .bool b13, .bool b23, .bool b33, .bool b43, .int .i64 wy3] 114)).putObj l3 (.loop (recS r3 .busy none)))) := HE.out.abides _ _ _ (HE.out.abides _ _ _ HI30.out (BelowR.alloc _ _)) (BelowR.recAt (by have := HAr3.out; omega) (show RecAt (V3.alloc _) l3 r3 .ready none from (Below.heap_alloc V3 _ _ HRec3.out.lt).trans HRec3.out))
                  have HFin3 : Hid (∀ V5 (tt : St σ), KeepsR (fun k => Z k ∨ k = N + 1) ((V3.alloc (Obj.cells #[.int .u64 (yv3 : Int), .int .i64 2, .int .u64 (f03 : Int), .bool b13, .bool b23, .bool b33, .bool b43, .int .i64 wy3] 114)).putObj l3 (.loop (recS r3 .busy none))) V5 → I tt.s V5 → _) := fun V5 tt hk hI => round_finr (t := tt) HE.out (by have := HAr3.out; omega) (by have := HAr3.out; omega) (by have := HAr3.out; omega) HR3.out HK30.out hk hI
                  have hsb3 : V3.heap.size + 1 = ((V3.alloc (Obj.cells #[.int .u64 (yv3 : Int), .int .i64 2, .int .u64 (f03 : Int), .bool b13, .bool b23, .bool b33, .bool b43, .int .i64 wy3] 114)).putObj l3 (.loop (recS r3 .busy none))).heap.size := by simp
                  have HRb3 := Lib.hid hbusy
                  clear hbusy
                  obtain ⟨Vb3, hVb⟩ : ∃ Vb, (V3.alloc (Obj.cells #[.int .u64 (yv3 : Int), .int .i64 2, .int .u64 (f03 : Int), .bool b13, .bool b23, .bool b33, .bool b43, .int .i64 wy3] 114)).putObj l3 (.loop (recS r3 .busy none)) = Vb := ⟨_, rfl⟩
                  rw [hVb] at HKv3 HBx3 HLv3 HIv3 HFin3 HRb3 hsb3 ⊢
                  clear hVb
                  have HSb3 := Lib.hid hsb3
                  clear hsb3
                  have HFu : Hid (CallsIn Fence.wide _ Tryz.prog 50 _ Vb3 _) := further_r HE.out (n := n - 6 - 1) (L := most) t3 (yv3, 2, (f03, b13, b23, b33, b43), wy3) Vb3 hgo3 hfine3 h2 h3 hy13 (by show 2 ≤ 2; decide) hyf3 (by have := HAr3.out; have := HSb3.out; omega) (by have := HMN.out; omega : N1 ≤ N + 1) (by omega : N ≠ N + 1) HLv3.out HIv3.out (HBase.out _ HKv3.out).2.1
                  dsimp only [SltV] at HFu
                  obtain ⟨tv3, htv3⟩ : ∃ tv, tv = visitS yd ct t3 (yv3, 2, (f03, b13, b23, b33, b43), wy3) := ⟨_, rfl⟩
                  rw [← htv3] at HFu
                  obtain ⟨x0, x1, x2, x3, x4, x5, x6, x7⟩ := HBx3.out.cells
                  dsimp only at x0 x1 x2 x3 x4 x5 x6 x7
                  obtain ⟨cF, cY, cM⟩ := HBase.out _ HKv3.out
                  cases hg3 : tv3.go
                  · rw [hg3] at HFu
                    gi_wp2_with (refine ⟨trivial, fun h => absurd h (by decide), ?_⟩; refine (CallsIn.inRound l3 HFu.out).mono ?_; rintro e V5 ⟨rfl, hl5, hI5, hk5⟩)
                    obtain ⟨q1, q2, q3⟩ := HFin3.out V5 tv3 hk5 hI5
                    refine ⟨q1, ?_⟩
                    rw [aft_stop (by rw [← htv3]; exact hg3), ← htv3]
                    exact q3 hg3
                  · rw [hg3] at HFu
                    gi_wp2_with (refine ⟨trivial, fun h => absurd h (by decide), ?_⟩; refine (CallsIn.inRound l3 HFu.out).mono ?_; rintro e V5 ⟨rfl, hl5, hI5, hk5⟩)
                    obtain ⟨q1, q2, q3⟩ := HFin3.out V5 tv3 hk5 hI5
                    refine ⟨q1, ?_⟩
                    rw [aft_on (by rw [← htv3]; exact hg3), ← htv3, show (if b13 = true then deep3 f03 yv3 (2 + 1) tv3 else tv3) = tv3 from by split <;> rfl]
                    exact q2 hg3 hl5
                · rintro V ⟨d1, d2, d3, d4⟩
                  exact ⟨d1, d2, d3, (KeepsR.of_below (S := (fun k => Z k ∨ k = N + 1)) HBW3.out).trans d4 (fun i hi h => h.elim id (fun e => by have := HAr3.out; omega))⟩
                · rintro c V ⟨d1, d2, d3, d4⟩
                  exact ⟨d1, d2, d3, (KeepsR.of_below (S := (fun k => Z k ∨ k = N + 1)) HBW3.out).trans d4 (fun i hi h => h.elim id (fun e => by have := HAr3.out; omega))⟩
          · rintro V ⟨d1, d2, d3, d4⟩
            exact ⟨d1, d2, d3, (KeepsR.of_below (S := (fun k => Z k ∨ k = N + 1)) HBW2.out).trans d4 (fun i hi h => h.elim id (fun e => by have := HAr2.out; omega))⟩
          · rintro c V ⟨d1, d2, d3, d4⟩
            exact ⟨d1, d2, d3, (KeepsR.of_below (S := (fun k => Z k ∨ k = N + 1)) HBW2.out).trans d4 (fun i hi h => h.elim id (fun e => by have := HAr2.out; omega))⟩
    --END
    · rintro V ⟨d1, d2, d3, d4⟩
      have hd : V.heap[w1.heap.size]? = some (.deferred (some [])) := (d4.block _ (by have := HAr1.out; omega) (fun h => h.elim (HnY.out _ (by have := HAr1.out; omega) (by have := HAr1.out; omega)) (fun e => by have := HAr1.out; omega)) (not_rw HD1.out not_rowO_deferred)).trans HD1.out
      exact ⟨⟨d1, d2, d3, HKw1.out.trans d4 (fun i hi h => h.elim id (fun e => by have := HAr1.out; omega))⟩, hd⟩
    · rintro c V ⟨d1, d2, d3, d4⟩
      have hd : V.heap[w1.heap.size]? = some (.deferred (some [])) := (d4.block _ (by have := HAr1.out; omega) (fun h => h.elim (HnY.out _ (by have := HAr1.out; omega) (by have := HAr1.out; omega)) (fun e => by have := HAr1.out; omega)) (not_rw HD1.out not_rowO_deferred)).trans HD1.out
      exact ⟨⟨d1, d2, d3, HKw1.out.trans d4 (fun i hi h => h.elim id (fun e => by have := HAr1.out; omega))⟩, hd⟩
end
end Go.Proofs.YtlplbbnicfeoaaaGreat
