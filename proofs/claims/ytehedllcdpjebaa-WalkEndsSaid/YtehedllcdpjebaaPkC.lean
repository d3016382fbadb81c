import Derived.Test.YtehedllcdpjebaaWbAwake
import Derived.Test.YtehedllcdpjebaaPkD
import Derived.Laws.EntriesVeiled
import Derived.Test.YtehedllcdpjebaaWkStore
/- WalkNames: the numbers of the small machine. Own work. -/
namespace Go.Proofs.Ytehedllcdpjebaa
open Go.RowKit Go.Maps Go.Proofs.Ytehedllcdpjebaa.Sp Wk Lv
/-- the bytes of the small machine, a byte stored -/
def MG : Nat → Nat := putAt MF 24575 [255]
theorem look_FF {a l : Nat} (v : Nat) (M : Nat → Nat) (h1 : 4096 ≤ a) (h2 : a + 8 ≤ 69632) (hv : Pl.num 8 (rdTo M a 8 8) = v) : lookF (rsF ++ []) M a (l : Int) = entB v l := by
  unfold lookF
  rw [if_pos (fun i hi => on_F (by omega) (by omega)), hv]
theorem look_G0 : lookF (rsF ++ []) MG 4096 (0 : Nat) = ((8192, true, false, false, false), 0) := by
  rw [look_FF 8193 MG (by omega) (by omega) (by decide)]
  decide
theorem look_G1 : lookF (rsF ++ []) MG 8192 (1 : Nat) = ((12288, true, false, false, false), 0) := by
  rw [look_FF 12289 MG (by omega) (by omega) (by decide)]
  decide
theorem look_G2 : lookF (rsF ++ []) MG 12312 (2 : Nat) = ((20480, false, false, true, false), 0) := by
  rw [look_FF 20483 MG (by omega) (by omega) (by decide)]
  decide
theorem look_Gz {a : Nat} (ha : a = 12288 ∨ a = 12296 ∨ a = 12304) : lookF (rsF ++ []) MG a (2 : Nat) = (no, 41) := by
  rcases ha with rfl | rfl | rfl
  · rw [look_FF 0 MG (by omega) (by omega) (by decide)]; decide
  · rw [look_FF 0 MG (by omega) (by omega) (by decide)]; decide
  · rw [look_FF 0 MG (by omega) (by omega) (by decide)]; decide
theorem look_Fz : lookF (rsF ++ []) MF 12320 (2 : Nat) = (no, 41) := by
  rw [look_FF 0 MF (by omega) (by omega) (by decide)]; decide
/-- the leaf of an address of the page -/
theorem leaf_M {M : Nat → Nat} (l0 : lookF (rsF ++ []) M 4096 (0 : Nat) = ((8192, true, false, false, false), 0)) (l1 : lookF (rsF ++ []) M 8192 (1 : Nat) = ((12288, true, false, false, false), 0)) {v a : Nat} {r : Ent × Int} (l2 : lookF (rsF ++ []) M a (2 : Nat) = r) (hr : r.2 ≠ 0 ∨ r.1.2.1 = false) (hv : v < 2097152) (ha : a = 12288 + 8 * (v / 4096)) : leafF (rsF ++ []) M v 3 0 4096 = r := by
  have e0 : 4096 + 8 * (v / (4096 * pgs 0) % 512) = 4096 := by
    have : pgs 0 = 262144 := by decide
    rw [this]; omega
  have e1 : 8192 + 8 * (v / (4096 * pgs 1) % 512) = 8192 := by
    have : pgs 1 = 512 := by decide
    rw [this]; omega
  have e2 : 12288 + 8 * (v / (4096 * pgs 2) % 512) = a := by
    have : pgs 2 = 1 := by decide
    rw [this, ha]; omega
  rw [leafF, e0, l0, if_neg (by simp), leafF]
  rw [show (0 : Nat) + 1 = 1 from rfl, e1, l1, if_neg (by simp), leafF]
  rw [show (1 : Nat) + 1 = 2 from rfl, e2, l2, if_pos hr]
theorem page_F {v : Nat} (h1 : 12288 ≤ v) (h2 : v < 16384) {acc : Int} (ha : acc = 1 ∨ acc = 2) : adrF (rsF ++ []) MF 4096 v acc = (20480 + v % 4096, 0) := by
  unfold adrF
  rw [if_neg (by omega), if_neg (by omega), if_neg (by omega), leaf_F h1 h2]
  rcases ha with rfl | rfl
  · simp [addrB]
  · simp [addrB]
theorem gap_F : adrF (rsF ++ []) MF 4096 16384 1 = (0, 41) := by
  unfold adrF
  rw [if_neg (by omega), if_neg (by omega), if_neg (by omega), leaf_M look_F0 look_F1 look_Fz (.inl (by decide)) (by omega) (by omega)]
  simp [addrB]
theorem page_G {v : Nat} (h1 : 12288 ≤ v) (h2 : v < 16384) : adrF (rsF ++ []) MG 4096 v 1 = (20480 + v % 4096, 0) := by
  unfold adrF
  rw [if_neg (by omega), if_neg (by omega), if_neg (by omega), leaf_M look_G0 look_G1 look_G2 (.inr rfl) (by omega) (by omega)]
  simp [addrB]
theorem take_h : takeV (rsF ++ []) MF 4096 16382 1 4 = (0, 41, 16384) := by
  have hv : ∀ i, i < 4 → vv 16382 i = 16382 + i := fun i hi => by unfold vv; omega
  have ha : ∀ i, i < 2 → ad (rsF ++ []) MF 4096 16382 1 i = (20480 + (16382 + i) % 4096, 0) := fun i hi => by
    unfold ad
    rw [hv i (by omega), page_F (by omega) (by omega) (.inl rfl)]
  have h2 : ad (rsF ++ []) MF 4096 16382 1 2 = (0, 41) := by
    unfold ad
    rw [hv 2 (by omega), gap_F]
  rw [takeV, reach_tr (i := 2) (fun j hj => by rw [ha j hj]) (by rw [h2]; decide) (by decide), h2, hv 2 (by omega)]
theorem ad_s : ad (rsF ++ []) MF 4096 16383 2 0 = (24575, 0) := by
  unfold ad
  rw [show vv 16383 0 = 16383 from by decide, page_F (by omega) (by omega) (.inr rfl)]
theorem reach_s : reachF (rsF ++ []) MF 4096 16383 2 1 = none := by
  refine reach_ok (fun j hj => ?_) (fun j hj => ?_)
  · obtain rfl : j = 0 := by omega
    rw [ad_s]
  · obtain rfl : j = 0 := by omega
    rw [ad_s]
    exact on_F (by omega) (by omega)
theorem st_s : stM (rsF ++ []) MF 4096 16383 511 1 = MG := by
  rw [stM, stM, ad_s]
  rfl
theorem take_n : takeV (rsF ++ []) MG 4096 16380 1 4 = (4278190080, 0, 0) := by
  have hv : ∀ i, i < 4 → vv 16380 i = 16380 + i := fun i hi => by unfold vv; omega
  have ha : ∀ i, i < 4 → ad (rsF ++ []) MG 4096 16380 1 i = (24572 + i, 0) := fun i hi => by
    unfold ad
    rw [hv i hi, page_G (by omega) (by omega)]
    congr 1
    omega
  rw [takeV, reach_ok (fun j hj => by rw [ha j hj]) (fun j hj => by rw [ha j hj]; exact on_F (by simp; omega) (by simp; omega))]
  have hu : upB (rsF ++ []) MG 4096 16380 1 4 = [0, 0, 0, 255, 0, 0, 0, 0] := by
    unfold upB
    rw [show List.range 8 = [0, 1, 2, 3, 4, 5, 6, 7] from rfl]
    simp only [List.map_cons, List.map_nil]
    rw [ha 0 (by omega), ha 1 (by omega), ha 2 (by omega), ha 3 (by omega)]
    decide
  rw [takeN, hu]
  rfl
end Go.Proofs.Ytehedllcdpjebaa
/- Leaves' iterator, over any memory. Own work. -/
namespace Go.Proofs.Ytehedllcdpjebaa
open Go.RowKit Go.Shelf Wk Lv
attribute [local go_sem] Oper.semAt_some
set_option maxRecDepth 100000 in
set_option maxHeartbeats 1000000 in
/-- below's iterator at what is no table -/
theorem below1_no (n : Nat) (l Bs Bm virt : Nat) (lev : Int) (x : Ent) (why : Int) (W : World) (hx : x.2.1 = false) (hb : BoxS W Bs virt lev x why) :
    CallsIn Fence.wide n Try.prog 34 #[.func (.yield l) #[] #[], .pointer (some ⟨Bs, 0, none⟩), .pointer (some ⟨Bm, 0, none⟩)] W fun e W' => (∃ v, e = .returned v) ∧ W' = W := by
  obtain ⟨s0, s1, s2, s3, s4, s5, s6, s7⟩ := hb.cells
  rw [hx] at s3
  refine callsIn_of_wp Try.func34 rfl trivial ?_ rfl
  simp only [Try.ntmps34, List.size_toArray, List.length_cons, List.length_nil, Nat.reduceAdd, Nat.reduceSub, Array.replicate_succ, Array.replicate_zero, List.push_toArray, List.append_toArray, List.nil_append, List.cons_append]
  gi_wp2
  refine bodyPost_ret (results_none rfl _ _ _) rfl ?_
  exact ⟨⟨_, rfl⟩, rfl⟩
section
variable {σ : Type} {lk : σ → Nat → Nat → Nat → (Ent × Int) × σ} {yd : σ → Slt → σ} {ct : σ → Slt → Bool} {live : σ → Prop} {cnt : σ → Nat} {Q : Nat} {I : σ → World → Prop} {Z : Nat → Prop} {N1 l0 : Nat} {T : TypeId} {u : Value}
/-- further, whatever it comes by -/
theorem further_any (E : LvEnv lk yd ct live cnt Q I Z N1 l0 T u) {n Bl By L : Nat} (t : St σ) (y : Slt) (W : World) (hgo : t.go = true) (hf : Fine live L t) (hL : L ≤ 9223372036854775807) (hy1 : y.1 < 549755813888) (hy2 : y.2.1 ≤ 2) (hy3 : y.2.2.1.1 + 4096 ≤ 18446744073709551616) (hN : N1 ≤ W.heap.size) (hBl : N1 ≤ Bl) (hne : By ≠ Bl) (hle : LeftAt W Bl t.left) (hI : I t.s W) (hyv : W.cell? ⟨By, 0, none⟩ = some (.func (.yield l0) #[] #[])) :
    CallsIn Fence.wide n Try.prog 21 #[SltV y.1 (y.2.1 : Int) y.2.2.1 y.2.2.2, .pointer (some ⟨Bl, 0, none⟩), .pointer (some ⟨By, 0, none⟩)] W fun e W' => e = .returned (.bool (visitS yd ct t y).go) ∧ LeftAt W' Bl (visitS yd ct t y).left ∧ I (visitS yd ct t y).s W' ∧ Keeps (fun k => Z k ∨ k = Bl) W W' := by
  have hp := hf.pos hgo
  have hm := hf.most
  unfold visitS
  by_cases hx : y.2.2.1.2.1 = true
  · rw [if_pos hx]
    refine (callsIn_wide.2 (further_table Bl By y.1 (y.2.1 : Int) y.2.2.1 y.2.2.2 t.left W hx hp (by omega) hle)).mono ?_
    rintro e W' ⟨rfl, h1, h2⟩
    exact ⟨rfl, h1, E.abides _ _ _ hI (h2.below hN (fun i _ e => by omega)), h2.mono (fun _ _ h => .inr h)⟩
  · have hx' : y.2.2.1.2.1 = false := by simpa using hx
    rw [if_neg hx]
    refine (further_told n Bl By l0 y.1 (y.2.1 : Int) y.2.2.1 y.2.2.2 t.left (pgs y.2.1) (ct t.s y) (fun W' => I (yd t.s y) W' ∧ Keeps (fun k => Z k ∨ k = Bl) W W') W hx' hp (by omega) hle hne hyv (fun W => pages_any hy2 W) ?_).mono ?_
    · intro W' hk hl'
      refine (E.tell _ t.s W' y hy1 hy2 hy3 (hf.live hgo) (Nat.le_trans hN hk.size) (E.abides _ _ _ hI (hk.below hN (fun i _ e => by omega)))).mono ?_
      rintro e W'' ⟨rfl, h1, h2⟩
      exact ⟨rfl, hl'.keeps h2 (fun hz => by have := E.zlt _ hz; omega), h1, (hk.mono (fun _ _ h => .inr h)).trans h2 (fun _ _ h => .inl h)⟩
    · rintro e W' ⟨rfl, h1, h2, h3⟩
      exact ⟨rfl, h1, h2, h3⟩
end
end Go.Proofs.Ytehedllcdpjebaa
/- Leaves' iterator, walked. Own work. -/
namespace Go.Proofs.Ytehedllcdpjebaa
open Go.RowKit Go.Shelf Wk Lv
attribute [local go_sem] Oper.semAt_some
section
variable {σ : Type} {lk : σ → Nat → Nat → Nat → (Ent × Int) × σ} {yd : σ → Slt → σ} {ct : σ → Slt → Bool} {live : σ → Prop} {cnt : σ → Nat} {Q : Nat} {I : σ → World → Prop} {Z : Nat → Prop} {N1 l0 : Nat} {T : TypeId} {u : Value}
theorem Keeps.cell' {Y : Nat → Prop} {w w' : World} {g : Nat} {v : Value} (hk : Keeps Y w w') (h : w.cell? ⟨g, 0, none⟩ = some v) (hn : ¬ Y g) : w'.cell? ⟨g, 0, none⟩ = some v := by
  have hb := hk.block g (World.block_lt_of_cell? w _ h) hn
  unfold World.cell? at h ⊢
  dsimp only at h ⊢
  rw [hb]
  exact h
/-- the entries below a slot: of a table, or none -/
theorem inner_any (E : LvEnv lk yd ct live cnt Q I Z N1 l0 T u) {n l Bs Bm Bl : Nat} {r : Loop} {W1 : World} {deep : Nat → Nat → Nat → St σ → St σ} {q L : Nat} (hdc : ∀ a b c t, cnt (deep a b c t).s ≤ cnt t.s + q) (hdf : ∀ a b c t, Fine live L t → Fine live L (deep a b c t))
    {virt lev : Nat} {x : Ent} {why : Int} (hlev : lev ≤ 2) (hxf : x.1 + 4096 ≤ 18446744073709551616) (hv : virt + 512 * rch lev ≤ 549755813888)
    {t : St σ} (ht : t.go = true) (hf : Fine live L t) (hcnt : cnt t.s + 512 * (q + 1) ≤ Q)
    (hN : N1 ≤ W1.heap.size) (hl : N1 ≤ l) (hlr : RecAt W1 l r .ready none) (hlb : l ≠ Bl) (hBs : BoxS W1 Bs virt ((lev : Int) - 1) x why) (hBsn : N1 ≤ Bs) (hBsl : Bs ≠ Bl) (hBm : W1.cell? ⟨Bm, 0, none⟩ = some (.iface T u)) (hBmn : N1 ≤ Bm) (hBml : Bm ≠ Bl) (hBl : N1 ≤ Bl) (hle : LeftAt W1 Bl t.left) (hI : I t.s W1)
    (hround : ∀ (t' : St σ) (y : Slt) (W : World), t'.go = true → Fine live L t' → y.1 < 549755813888 → y.1 + rch lev ≤ 549755813888 → y.2.1 = lev → y.2.2.1.1 + 4096 ≤ 18446744073709551616 → cnt t'.s + q ≤ Q → Keeps (fun k => Z k ∨ k = Bl) W1 W → LeftAt W Bl t'.left → I t'.s W →
      YieldAt Fence.wide (n - 1) Try.prog l #[SltV y.1 (y.2.1 : Int) y.2.2.1 y.2.2.2] W (LvR I (fun k => Z k ∨ k = Bl) Bl l r W1 (aft yd ct deep t' y))) :
    CallsIn Fence.wide n Try.prog 34 #[.func (.yield l) #[] #[], .pointer (some ⟨Bs, 0, none⟩), .pointer (some ⟨Bm, 0, none⟩)] W1
      (IterP l r (LvD I (fun k => Z k ∨ k = Bl) Bl l W1 (if x.2.1 then tabN lk yd ct deep x.1 virt lev 512 t else t)) (LvS I (fun k => Z k ∨ k = Bl) l W1 (if x.2.1 then tabN lk yd ct deep x.1 virt lev 512 t else t))) := by
  by_cases hx : x.2.1 = true
  · rw [if_pos hx]
    exact level_any E hdc hdf hlev hx hxf hv ht hf hcnt hN hl hlr hlb hBs hBsn hBsl hBm hBmn hBml hBl hle hI hround
  · rw [if_neg hx]
    refine (below1_no n l Bs Bm virt ((lev : Int) - 1) x why W1 (by simpa using hx) hBs).mono ?_
    rintro e W' ⟨he, rfl⟩
    exact ⟨he, .inl ⟨hlr, ht, E.abides _ _ _ hI ((Keeps.putObj W' l _).below hN (fun i _ e => by omega)), hle.keeps (Keeps.putObj W' l _) (fun e => hlb e.symm), (Keeps.putObj W' l _).mono (fun _ _ h => .inr h)⟩⟩
theorem aft_stop {deep : Nat → Nat → Nat → St σ → St σ} {t : St σ} {y : Slt} (h : (visitS yd ct t y).go = false) : aft yd ct deep t y = visitS yd ct t y := by
  unfold aft
  rw [h]
  rfl
theorem aft_on {deep : Nat → Nat → Nat → St σ → St σ} {t : St σ} {y : Slt} (h : (visitS yd ct t y).go = true) : aft yd ct deep t y = if y.2.2.1.2.1 then deep y.2.2.1.1 y.1 (y.2.1 + 1) (visitS yd ct t y) else visitS yd ct t y := by
  unfold aft
  rw [h]
  rfl
/-- a round's end -/
theorem round_fin (E : LvEnv lk yd ct live cnt Q I Z N1 l0 T u) {Bl l : Nat} {r : Loop} {W1 V0 V5 : World} {o : Obj} {t : St σ} (hl : N1 ≤ l) (hlb : l ≠ Bl) (hN : N1 ≤ W1.heap.size) (hlr : RecAt W1 l r .ready none) (hk0 : Keeps (fun k => Z k ∨ k = Bl) W1 V0) (hk : Keeps (fun k => Z k ∨ k = Bl) ((V0.alloc o).putObj l (.loop (recS r .busy none))) V5) (hI : I t.s V5) :
    RecAt V5 l r .busy none ∧ (t.go = true → LeftAt V5 Bl t.left → LvR I (fun k => Z k ∨ k = Bl) Bl l r W1 t (.returned (.bool true)) (V5.putObj l (.loop (recS r .ready none)))) ∧ (t.go = false → LvR I (fun k => Z k ∨ k = Bl) Bl l r W1 t (.returned (.bool false)) (V5.putObj l (.loop (recS r .done (some .ret))))) := by
  have hnY : ¬ (Z l ∨ l = Bl) := fun h => h.elim (fun hz => by have := E.zlt l hz; omega) hlb
  have hlt : l < (V0.alloc o).heap.size := by have := hlr.lt; have := hk0.size; simp; omega
  have hb : RecAt V5 l r .busy none := (hk.block l (by simpa using hlt) hnY).trans (World.putObj_heap_same hlt)
  have hall : Keeps (fun k => (Z k ∨ k = Bl) ∨ k = l) W1 V5 :=
    (((hk0.mono (S' := fun k => (Z k ∨ k = Bl) ∨ k = l) (fun _ _ h => .inl h)).trans (Keeps.alloc (S := fun _ => False) V0 o) (fun _ _ h => h.elim)).trans (Keeps.putObj _ l _) (fun _ _ h => .inr h)).trans hk (fun _ _ h => .inl h)
  have hsz : N1 ≤ V5.heap.size := Nat.le_trans hN hall.size
  refine ⟨hb, fun hg hle => ⟨by rw [hg], E.abides _ _ _ hI ((Keeps.putObj V5 l _).below hsz (fun i _ e => by omega)), fun _ => ⟨hall.back hlr, hle.keeps (Keeps.putObj V5 l _) (fun e => hlb e.symm)⟩, fun h => (by rw [hg] at h; cases h)⟩, fun hg => ⟨by rw [hg], E.abides _ _ _ hI ((Keeps.putObj V5 l _).below hsz (fun i _ e => by omega)), fun h => (by rw [hg] at h; cases h), fun _ => ⟨World.putObj_heap_same hb.lt, hall.trans (Keeps.putObj V5 l _) (fun _ _ h => .inr h)⟩⟩⟩
theorem IterP.imp {l : Nat} {r : Loop} {D D' : World → Prop} {S S' : Code → World → Prop} (hD : ∀ W, D W → D' W) (hS : ∀ c W, S c W → S' c W) (e : Ending) (W : World) (h : IterP l r D S e W) : IterP l r D' S' e W :=
  ⟨h.1, h.2.imp (fun h => ⟨h.1, hD _ h.2⟩) (fun ⟨c, h⟩ => ⟨c, h.1, hS _ _ h.2⟩)⟩
def LvE (I : σ → World → Prop) (Y : Nat → Prop) (Bl : Nat) (W1 : World) (t : St σ) (W : World) : Prop := t.go = true ∧ I t.s W ∧ LeftAt W Bl t.left ∧ Keeps Y W1 W
def LvF (I : σ → World → Prop) (Y : Nat → Prop) (W1 : World) (t : St σ) (c : Code) (W : World) : Prop := c = .ret ∧ t.go = false ∧ I t.s W ∧ Keeps Y W1 W
set_option maxRecDepth 100000 in
set_option maxHeartbeats 4000000 in
theorem leaves1_any (E : LvEnv lk yd ct live cnt Q I Z N1 l0 T u) {n Bm Bo Br root most : Nat} {W : World} {s0 : σ} (hn : 10 ≤ n) (hN : W.heap.size = N1) (hBm : W.cell? ⟨Bm, 0, none⟩ = some (.iface T u)) (hBmz : ¬ Z Bm) (hBo : W.cell? ⟨Bo, 0, none⟩ = some (.int .i64 (most : Int))) (hBr : W.cell? ⟨Br, 0, none⟩ = some (.int .u64 (root : Int))) (hroot : root % 4096 = 0) (hr : root + 4096 ≤ 18446744073709551616) (h1 : 1 ≤ most) (h2 : most ≤ 9223372036854775807) (hQ : cnt s0 + 134480384 ≤ Q) (hlive : live s0) (hI : I s0 W) :
    CallsIn Fence.wide n Try.prog 19 #[.func (.yield l0) #[] #[], .pointer (some ⟨Bm, 0, none⟩), .pointer (some ⟨Bo, 0, none⟩), .pointer (some ⟨Br, 0, none⟩)] W fun e W' => (∃ v, e = .returned v) ∧ I (allS lk yd ct root { s := s0, left := most, go := true }).s W' ∧ Keeps Z W W' := by
  have HE := Lib.hid E
  have HI := Lib.hid hI
  have HQ := Lib.hid hQ
  have HN := Lib.hid hN
  clear E hI hQ hN
  have hbm : Bm < W.heap.size := World.block_lt_of_cell? W _ hBm
  have hbo : Bo < W.heap.size := World.block_lt_of_cell? W _ hBo
  have hbr : Br < W.heap.size := World.block_lt_of_cell? W _ hBr
  have hi0 : (root : Int) % 4096 = 0 := by omega
  have hmx : Try.prog.follows .mixedOrders = true := by kernel_rfl
  have HSb : Hid (∀ w, Calls Try.prog 23 #[SltV 0 (-1) (root, true, false, false, false) 0, .iface T u] w fun e w' => e = .returned (.func (.func 34) #[] #[.pointer (some ⟨w.heap.size, 0, none⟩), .pointer (some ⟨w.heap.size + 1, 0, none⟩)]) ∧ BoxS w' w.heap.size 0 (-1) (root, true, false, false, false) 0 ∧ w'.cell? ⟨w.heap.size + 1, 0, none⟩ = some (.iface T u) ∧ w'.heap.size = w.heap.size + 2 ∧ Below w.heap.size w w') := fun w => sbelow_any 0 (-1) (root, true, false, false, false) 0 T u w
  dsimp only [SltV] at HSb
  refine callsIn_of_wp_marks Try.func19 rfl trivial ?_ rfl
  simp only [Try.ntmps19, List.size_toArray, List.length_cons, List.length_nil, Nat.reduceAdd, Nat.reduceSub, Array.replicate_succ, Array.replicate_zero, List.push_toArray, List.append_toArray, List.nil_append, List.cons_append]
  refine wpIn_wide.2 ?_
  go_upto_region 5 with fail
  obtain ⟨W4, hW4⟩ : ∃ W4, (W.alloc (Obj.cells #[.func (.yield l0) #[] #[]] 64)).alloc (Obj.cells #[.int .i64 (most : Int)] 3) = W4 := ⟨_, rfl⟩
  have HB4 := Lib.hid (show Below W.heap.size W W4 from hW4 ▸ ((Below.refl _ W).alloc (Nat.le_refl _) _).alloc (by simp) _)
  have HL4 : Hid (LeftAt W4 (W.heap.size + 1) most) := by
    have := World.alloc_heap_new (W.alloc (Obj.cells #[.func (.yield l0) #[] #[]] 64)) (Obj.cells #[.int .i64 (most : Int)] 3)
    rw [World.size_alloc, hW4] at this
    exact this
  have hs4 : W4.heap.size = W.heap.size + 2 := by rw [← hW4]; simp
  have HY4 : Hid (W4.cell? ⟨W.heap.size, 0, none⟩ = some (.func (.yield l0) #[] #[])) := by
    show _ = _
    rw [← hW4]
    simp
  rw [hW4]
  clear hW4
  have HS4 := Lib.hid hs4
  have hbm4 : Bm < W4.heap.size := by omega
  have hbr4 : Br < W4.heap.size := by omega
  clear hs4
  have hBm4 : W4.cell? ⟨Bm, 0, none⟩ = some (.iface T u) := (HB4.out.cell (p := ⟨Bm, 0, none⟩) hbm).trans hBm
  have hBr4 : W4.cell? ⟨Br, 0, none⟩ = some (.int .u64 (root : Int)) := (HB4.out.cell (p := ⟨Br, 0, none⟩) hbr).trans hBr
  have HBm := Lib.hid hBm
  clear hBo hBr hBm hbo hbr
  obtain ⟨N, hNW⟩ : ∃ N, N = W.heap.size := ⟨_, rfl⟩
  have HNW := Lib.hid hNW
  rw [← hNW] at HL4 HY4 ⊢
  clear hNW
  go_wp2_with (first | (go_at_call 23; refine (HSb.out _).mono ?_; rintro e w1 ⟨rfl, hb1, hm1, hs1, hB1⟩))
  simp only [World.size_alloc] at hb1 hm1 hs1
  have HB6 : Hid (Below W4.heap.size W4 w1) := (((Below.refl _ W4).alloc (Nat.le_refl _) _).alloc (by simp) _).trans (hB1.mono (by simp; omega))
  have HF6 : Hid (w1.cell? ⟨W4.heap.size, 0, none⟩ = some (.func (.func 21) #[] #[.pointer (some ⟨N + 1, 0, none⟩), .pointer (some ⟨N, 0, none⟩)])) := (hB1.cell (p := ⟨W4.heap.size, 0, none⟩) (by simp; omega)).trans (by simp)
  have HW6 := Lib.hid hb1
  have HC6 := Lib.hid hm1
  have HS6 := Lib.hid hs1
  clear hb1 hm1 hs1 hB1 hBm4 hBr4 hbm4 hbr4
  have HY6 : Hid (w1.cell? ⟨N, 0, none⟩ = some (.func (.yield l0) #[] #[])) := (HB6.out.cell (p := ⟨N, 0, none⟩) (by have := HNW.out; have := HS4.out; show N < _; omega)).trans HY4.out
  have HM6 : Hid (w1.cell? ⟨Bm, 0, none⟩ = some (.iface T u)) := (HB6.out.cell (p := ⟨Bm, 0, none⟩) (by have := HS4.out; show Bm < _; omega)).trans ((HB4.out.cell (p := ⟨Bm, 0, none⟩) hbm).trans HBm.out)
  have HL6 : Hid (LeftAt w1 (N + 1) most) := HL4.out.below HB6.out
  have HI6 : Hid (I s0 w1) := HE.out.abides _ _ _ HI.out ((HB4.out.trans (HB6.out.mono HB4.out.size)).mono (Nat.le_of_eq HN.out.symm))
  have HK6 : Hid (Below W.heap.size W w1) := HB4.out.trans (HB6.out.mono HB4.out.size)
  obtain ⟨M, hM⟩ : ∃ M, M = W4.heap.size := ⟨_, rfl⟩
  have HMN : Hid (M = N + 2 ∧ N = N1 ∧ Bm < N) := by
    show _ ∧ _ ∧ _
    have := HS4.out
    have := HNW.out
    have := HN.out
    omega
  rw [← hM] at HF6 HW6 HC6 HS6 ⊢
  clear hM HB6 HB4 HY4 HL4 HI HSb HS4 HBm
  clear hbm
  have hnY : ∀ k, N1 ≤ k → k ≠ N + 1 → ¬ (Z k ∨ k = N + 1) := fun k h1 h2 h => h.elim (fun hz => by have := HE.out.zlt k hz; omega) h2
  have HnY := Lib.hid hnY
  clear hnY
  have HBase : Hid (∀ V, Keeps (fun k => Z k ∨ k = N + 1) w1 V → V.cell? ⟨M, 0, none⟩ = some (.func (.func 21) #[] #[.pointer (some ⟨N + 1, 0, none⟩), .pointer (some ⟨N, 0, none⟩)]) ∧ V.cell? ⟨N, 0, none⟩ = some (.func (.yield l0) #[] #[]) ∧ V.cell? ⟨Bm, 0, none⟩ = some (.iface T u)) := fun V hk => by
    have := HMN.out
    exact ⟨hk.cell' HF6.out (HnY.out M (by omega) (by omega)), hk.cell' HY6.out (HnY.out N (by omega) (by omega)), hk.cell' HM6.out (fun h => h.elim hBmz (fun e => by omega))⟩
  refine (wpIn_wide (n := n)).1 ?_
  refine range_out (F := Fence.wide) rfl (by omega) (gf := 34) (lb := #[.pointer (some ⟨M + 1 + 1, 0, none⟩), .pointer (some ⟨M + 1 + 1 + 1, 0, none⟩)]) rfl trivial (enters_of Try.func34 (by kernel_rfl) rfl)
    (fun V => LvE I (fun k => Z k ∨ k = N + 1) (N + 1) w1 (allS lk yd ct root { s := s0, left := most, go := true }) V ∧ V.heap[w1.heap.size]? = some (.deferred (some [])))
    (fun c V => LvF I (fun k => Z k ∨ k = N + 1) w1 (allS lk yd ct root { s := s0, left := most, go := true }) c V ∧ V.heap[w1.heap.size]? = some (.deferred (some []))) ?it ?fin ?stop
  case fin =>
    rintro V ⟨⟨d1, d2, d3, d4⟩, d5⟩
    gi_wp2
    refine ⟨by simp, .inl ⟨_, _, rfl, run_takeDeferred d5, ?_⟩⟩
    have hmn := HMN.out
    have hs6 := HS6.out
    have hnn := HN.out
    have hkk := HK6.out.size
    have hvv := d4.size
    refine ⟨_, results_none rfl _ _ _, ⟨_, rfl⟩, HE.out.abides _ _ _ d2 ((Keeps.putObj V w1.heap.size _).below (by omega) (fun i _ e => by omega)), ?_⟩
    exact ((Keeps.of_below (S := Z) HK6.out).trans d4 (fun i hi h => h.elim id (fun e => by omega))).trans (Keeps.putObj V w1.heap.size _) (fun i hi e => by omega)
  case stop =>
    rintro c V ⟨⟨rfl, d1, d2, d4⟩, d5⟩
    gi_wp2
    refine ⟨by simp, .inl ⟨_, _, rfl, run_takeDeferred d5, ?_⟩⟩
    have hmn := HMN.out
    have hs6 := HS6.out
    have hnn := HN.out
    have hkk := HK6.out.size
    have hvv := d4.size
    refine ⟨_, results_none rfl _ _ _, ⟨_, rfl⟩, HE.out.abides _ _ _ d2 ((Keeps.putObj V w1.heap.size _).below (by omega) (fun i _ e => by omega)), ?_⟩
    exact ((Keeps.of_below (S := Z) HK6.out).trans d4 (fun i hi h => h.elim id (fun e => by omega))).trans (Keeps.putObj V w1.heap.size _) (fun i hi e => by omega)
  case it =>
    intro W1 r1 _ hrt1 hrp1 hra1 hrb1 hW1
    obtain ⟨l1, hl1⟩ : ∃ l, l = w1.heap.size + 1 := ⟨_, rfl⟩
    have HR1 : Hid (RecAt W1 l1 r1 .ready none) := by
      have := World.alloc_heap_new (w1.alloc (.deferred (some []))) (.loop (recS r1 .ready none))
      rw [World.size_alloc, ← hW1, ← hl1] at this
      exact this
    have HD1 : Hid (W1.heap[w1.heap.size]? = some (.deferred (some []))) := by
      show _ = _
      rw [hW1, Below.heap_alloc _ _ _ (by simp)]
      exact World.alloc_heap_new _ _
    have HB1 : Hid (Below w1.heap.size w1 W1) := hW1 ▸ (((Below.refl _ w1).alloc (Nat.le_refl _) _).alloc (by simp) _)
    clear hW1
    have HKw1 : Hid (Keeps (fun k => Z k ∨ k = N + 1) w1 W1) := Keeps.of_below HB1.out
    have HAr1 : Hid (M = N + 2 ∧ N = N1 ∧ Bm < N ∧ w1.heap.size = M + 4 ∧ w1.heap.size ≤ l1 ∧ l1 < W1.heap.size ∧ l1 = w1.heap.size + 1) := by
      show _ ∧ _
      have := HMN.out
      have := HS6.out
      have := HR1.out.lt
      omega
    rw [← hl1]
    clear hl1
    refine (level_any HE.out (deep := deep1 lk yd ct) (q := 262656) (L := most) (cnt1 (ct := ct) HE.out.cl HE.out.cy) (fine1 HE.out.lives) (virt := 0) (lev := 0) (x := (root, true, false, false, false)) (why := 0) (by omega) rfl hr (by decide) (t := { s := s0, left := most, go := true }) rfl ⟨fun _ => h1, Nat.le_refl _, fun _ => hlive⟩ (by have := HQ.out; show cnt s0 + 134480384 ≤ Q; omega) (by have := HAr1.out; omega) (by have := HAr1.out; omega) HR1.out (by have := HAr1.out; omega) (HW6.out.below HB1.out) (by have := HAr1.out; omega) (by have := HAr1.out; omega) ((HB1.out.cell (p := ⟨M + 1 + 1 + 1, 0, none⟩) (by have := HAr1.out; show M + 1 + 1 + 1 < _; omega)).trans HC6.out) (by have := HAr1.out; omega) (by have := HAr1.out; omega) (by have := HAr1.out; omega) (HL6.out.below HB1.out) (HE.out.abides _ _ _ HI6.out (HB1.out.mono (by have := HAr1.out; omega))) ?round).mono (IterP.imp ?_ ?_)
    case round =>
      --ROUNDS
      intro t1 y V1 hgo1 hfine1 hy11 hyr1 hylev1 hyf1 hcnt1 hk0 hle hIt
      obtain ⟨yv1, ylv, ⟨f01, b11, b21, b31, b41⟩, wy1⟩ := y
      dsimp only at hy11 hyr1 hylev1 hyf1
      subst hylev1
      have hrec0 : RecAt V1 l1 r1 .ready none := (hk0.block _ HR1.out.lt (HnY.out _ (by have := HAr1.out; omega) (by have := HAr1.out; omega))).trans HR1.out
      have HK10 := Lib.hid hk0
      have HL10 := Lib.hid hle
      have HI10 := Lib.hid hIt
      have hsz1 : l1 < V1.heap.size := Nat.lt_of_lt_of_le HR1.out.lt hk0.size
      clear hk0 hle hIt
      refine yield_of (F := Fence.wide) hrec0 (by rw [hrp1]; rfl) trivial ?_
      rw [hra1, hrt1, hrp1]
      have HRec1 := Lib.hid hrec0
      clear hrec0
      dsimp only [SltV]
      gi_wp2
      refine ⟨(Below.heap_alloc V1 _ _ HRec1.out.lt).trans HRec1.out, ?_⟩
      intro hbusy
      try rw [hrb1]
      have HKv1 : Hid (Keeps (fun k => Z k ∨ k = N + 1) w1 ((V1.alloc (Obj.cells #[.int .u64 (yv1 : Int), .int .i64 0, .int .u64 (f01 : Int), .bool b11, .bool b21, .bool b31, .bool b41, .int .i64 wy1] 69)).putObj l1 (.loop (recS r1 .busy none)))) := ((HKw1.out.trans HK10.out (fun _ _ h => h)).trans (Keeps.alloc (S := fun _ => False) _ _) (fun _ _ h => h.elim)).trans (Keeps.putObj _ l1 _) (fun i hi e => by have := HAr1.out; omega)
      have HBx1 : Hid (BoxS ((V1.alloc (Obj.cells #[.int .u64 (yv1 : Int), .int .i64 0, .int .u64 (f01 : Int), .bool b11, .bool b21, .bool b31, .bool b41, .int .i64 wy1] 69)).putObj l1 (.loop (recS r1 .busy none))) V1.heap.size yv1 0 (f01, b11, b21, b31, b41) wy1) := (BoxS.new V1 yv1 0 (f01, b11, b21, b31, b41) wy1).keeps (Keeps.putObj _ l1 _) (by omega)
      have HLv1 : Hid (LeftAt ((V1.alloc (Obj.cells #[.int .u64 (yv1 : Int), .int .i64 0, .int .u64 (f01 : Int), .bool b11, .bool b21, .bool b31, .bool b41, .int .i64 wy1] 69)).putObj l1 (.loop (recS r1 .busy none))) (N + 1) t1.left) := (HL10.out.below ((Below.refl _ _).alloc (Nat.le_refl _) _)).keeps (Keeps.putObj _ l1 _) (by have := HAr1.out; omega)
      have HIv1 : Hid (I t1.s ((V1.alloc (Obj.cells #[.int .u64 (yv1 : Int), .int .i64 0, .int .u64 (f01 : Int), .bool b11, .bool b21, .bool b31, .bool b41, .int .i64 wy1] 69)).putObj l1 (.loop (recS r1 .busy none)))) := HE.out.abides _ _ _ (HE.out.abides _ _ _ HI10.out ((Below.refl _ _).alloc (by have := HAr1.out; omega) _)) ((Keeps.putObj _ l1 _).below (by have := HAr1.out; simp; omega) (fun i _ e => by have := HAr1.out; omega))
      have HFin1 : Hid (∀ V5 (tt : St σ), Keeps (fun k => Z k ∨ k = N + 1) ((V1.alloc (Obj.cells #[.int .u64 (yv1 : Int), .int .i64 0, .int .u64 (f01 : Int), .bool b11, .bool b21, .bool b31, .bool b41, .int .i64 wy1] 69)).putObj l1 (.loop (recS r1 .busy none))) V5 → I tt.s V5 → _) := fun V5 tt hk hI => round_fin (t := tt) HE.out (by have := HAr1.out; omega) (by have := HAr1.out; omega) (by have := HAr1.out; omega) HR1.out HK10.out hk hI
      have hsb1 : V1.heap.size + 1 = ((V1.alloc (Obj.cells #[.int .u64 (yv1 : Int), .int .i64 0, .int .u64 (f01 : Int), .bool b11, .bool b21, .bool b31, .bool b41, .int .i64 wy1] 69)).putObj l1 (.loop (recS r1 .busy none))).heap.size := by simp
      have HRb1 := Lib.hid hbusy
      clear hbusy
      obtain ⟨Vb1, hVb⟩ : ∃ Vb, (V1.alloc (Obj.cells #[.int .u64 (yv1 : Int), .int .i64 0, .int .u64 (f01 : Int), .bool b11, .bool b21, .bool b31, .bool b41, .int .i64 wy1] 69)).putObj l1 (.loop (recS r1 .busy none)) = Vb := ⟨_, rfl⟩
      rw [hVb] at HKv1 HBx1 HLv1 HIv1 HFin1 HRb1 hsb1 ⊢
      clear hVb
      have HSb1 := Lib.hid hsb1
      clear hsb1
      have HFu : Hid (CallsIn Fence.wide _ Try.prog 21 _ Vb1 _) := further_any HE.out (n := n - 2 - 1) (L := most) t1 (yv1, 0, (f01, b11, b21, b31, b41), wy1) Vb1 hgo1 hfine1 h2 hy11 (by show 0 ≤ 2; decide) hyf1 (by have := HAr1.out; have := HSb1.out; omega) (by have := HMN.out; omega : N1 ≤ N + 1) (by omega : N ≠ N + 1) HLv1.out HIv1.out (HBase.out _ HKv1.out).2.1
      dsimp only [SltV] at HFu
      obtain ⟨tv1, htv1⟩ : ∃ tv, tv = visitS yd ct t1 (yv1, 0, (f01, b11, b21, b31, b41), wy1) := ⟨_, rfl⟩
      rw [← htv1] at HFu
      obtain ⟨x0, x1, x2, x3, x4, x5, x6, x7⟩ := HBx1.out.cells
      dsimp only at x0 x1 x2 x3 x4 x5 x6 x7
      obtain ⟨cF, cY, cM⟩ := HBase.out _ HKv1.out
      cases hg1 : tv1.go
      · rw [hg1] at HFu
        gi_wp2_with (refine ⟨trivial, fun h => absurd h (by decide), ?_⟩; refine (CallsIn.inRound l1 HFu.out).mono ?_; rintro e V5 ⟨rfl, hl5, hI5, hk5⟩)
        obtain ⟨q1, q2, q3⟩ := HFin1.out V5 tv1 hk5 hI5
        refine ⟨q1, ?_⟩
        rw [aft_stop (by rw [← htv1]; exact hg1), ← htv1]
        exact q3 hg1
      · rw [hg1] at HFu
        have hT1 : aft yd ct (deep1 lk yd ct) t1 (yv1, 0, (f01, b11, b21, b31, b41), wy1) = (if b11 then tabN lk yd ct (deep2 lk yd ct) f01 yv1 1 512 tv1 else tv1) := by rw [aft_on (by rw [← htv1]; exact hg1), ← htv1]; rfl
        obtain ⟨T1, hTT1⟩ : ∃ Tt, Tt = (if b11 then tabN lk yd ct (deep2 lk yd ct) f01 yv1 1 512 tv1 else tv1) := ⟨_, rfl⟩
        rw [hT1, ← hTT1]
        have HTT1 := Lib.hid hTT1
        have HTv1 := Lib.hid htv1
        clear hT1 hTT1 htv1
        have HSl : Hid (∀ w, Calls Try.prog 23 #[SltV yv1 0 (f01, b11, b21, b31, b41) wy1, .iface T u] w fun e w' => e = .returned (.func (.func 34) #[] #[.pointer (some ⟨w.heap.size, 0, none⟩), .pointer (some ⟨w.heap.size + 1, 0, none⟩)]) ∧ BoxS w' w.heap.size yv1 0 (f01, b11, b21, b31, b41) wy1 ∧ w'.cell? ⟨w.heap.size + 1, 0, none⟩ = some (.iface T u) ∧ w'.heap.size = w.heap.size + 2 ∧ Below w.heap.size w w') := fun w => sbelow_any yv1 0 (f01, b11, b21, b31, b41) wy1 T u w
        dsimp only [SltV] at HSl
        gi_wp2_with (first
          | (refine ⟨trivial, fun h => absurd h (by decide), ?_⟩; refine (CallsIn.inRound l1 HFu.out).mono ?_; rintro e Vf1 ⟨rfl, hl5, hI5, hk5⟩; clear HFu; have HLf1 := Lib.hid hl5; have HIf1 := Lib.hid hI5; have HKf1 := Lib.hid hk5; clear hl5 hI5 hk5; clear x0 x1 x2 x3 x4 x5 x6 x7 cF cY cM; obtain ⟨x0, x1, x2, x3, x4, x5, x6, x7⟩ := (HBx1.out.keeps HKf1.out (HnY.out _ (by have := HAr1.out; omega) (by have := HAr1.out; omega))).cells; dsimp only at x0 x1 x2 x3 x4 x5 x6 x7; obtain ⟨cF, cY, cM⟩ := HBase.out _ (HKv1.out.trans HKf1.out (fun _ _ h => h)))
          | (refine ⟨trivial, fun h => absurd h (by decide), ?_⟩; refine (CallsIn.inRound l1 (callsIn_wide.2 (HSl.out _))).mono ?_; rintro e Vs1 ⟨rfl, hb5, hm5, hs5, hB5⟩))
        have HBs1 := Lib.hid hb5
        have HMs1 := Lib.hid hm5
        have HSs1 := Lib.hid hs5
        have HBB1 := Lib.hid hB5
        clear hb5 hm5 hs5 hB5 x0 x1 x2 x3 x4 x5 x6 x7 cF cY cM HSl
        have HKs1 : Hid (Keeps (fun k => Z k ∨ k = N + 1) Vb1 Vs1) := HKf1.out.trans (Keeps.of_below (S := fun _ => False) HBB1.out) (fun _ _ h => h.elim)
        have HLs1 : Hid (LeftAt Vs1 (N + 1) tv1.left) := HLf1.out.below HBB1.out
        have HIs1 : Hid (I tv1.s Vs1) := HE.out.abides _ _ _ HIf1.out (HBB1.out.mono (by have := HAr1.out; have := HSb1.out; have := HKf1.out.size; omega))
        refine range_in (F := Fence.wide.inRound l1) (l₀ := l1) (r₀ := recS r1 .busy none) rfl ((HKs1.out.block l1 HRb1.out.lt (HnY.out _ (by have := HAr1.out; omega) (by have := HAr1.out; omega))).trans HRb1.out) (by omega) (gf := 34) (lb := #[.pointer (some ⟨Vf1.heap.size, 0, none⟩), .pointer (some ⟨Vf1.heap.size + 1, 0, none⟩)]) rfl trivial (enters_of Try.func34 (by kernel_rfl) rfl)
          (LvE I (fun k => Z k ∨ k = N + 1) (N + 1) Vs1 T1) (LvF I (fun k => Z k ∨ k = N + 1) Vs1 T1) ?it ?fin ?stop
        case fin =>
          rintro V5 ⟨hg5, hI5, hl5, hk5⟩
          gi_wp2
          obtain ⟨q1, q2, q3⟩ := HFin1.out V5 _ (HKs1.out.trans hk5 (fun _ _ h => h)) hI5
          exact ⟨q1, q2 hg5 hl5⟩
        case stop =>
          rintro c V5 ⟨rfl, hg5, hI5, hk5⟩
          gi_wp2
          obtain ⟨q1, q2, q3⟩ := HFin1.out V5 _ (HKs1.out.trans hk5 (fun _ _ h => h)) hI5
          exact ⟨q1, q3 hg5⟩
        case it =>
          intro W2 r2 _ hrt2 hrp2 hra2 hrb2 hW
          obtain ⟨l2, hl2⟩ : ∃ l, l = Vs1.heap.size := ⟨_, rfl⟩
          have HR2 : Hid (RecAt W2 l2 r2 .ready none) := by
            have := World.alloc_heap_new Vs1 (.loop (recS r2 .ready none))
            rw [← hW, ← hl2] at this
            exact this
          have HBW2 : Hid (Below Vs1.heap.size Vs1 W2) := hW ▸ (Below.refl _ Vs1).alloc (Nat.le_refl _) _
          clear hW
          have HKw2 : Hid (Keeps (fun k => Z k ∨ k = N + 1) w1 W2) := (HKv1.out.trans HKs1.out (fun _ _ h => h)).trans (Keeps.of_below (S := fun _ => False) HBW2.out) (fun _ _ h => h.elim)
          have HAr2 : Hid (M = N + 2 ∧ N = N1 ∧ Bm < N ∧ w1.heap.size = M + 4 ∧ w1.heap.size ≤ l2 ∧ l2 < W2.heap.size ∧ l2 = Vf1.heap.size + 2 ∧ w1.heap.size ≤ Vf1.heap.size ∧ Vs1.heap.size = l2) := by
            show _ ∧ _
            have := HAr1.out
            have := HR2.out.lt
            have := HSs1.out
            have := HKf1.out.size
            have := HKv1.out.size
            omega
          rw [← hl2]
          clear hl2
          rw [HTT1.out]
          have hcv : cnt tv1.s ≤ cnt t1.s := by rw [HTv1.out]; exact cnt_visit (ct := ct) HE.out.cy _ _
          refine CallsIn.inRound l1 ((inner_any HE.out (deep := (deep2 lk yd ct)) (q := 512) (L := most) (cnt2 (ct := ct) HE.out.cl HE.out.cy) (fine2 HE.out.lives) (virt := yv1) (lev := 1) (x := (f01, b11, b21, b31, b41)) (why := wy1) (by omega) hyf1 (by rw [show 512 * rch 1 = rch 0 from by decide]; exact hyr1) (t := tv1) hg1 (by rw [HTv1.out]; exact visit_fine HE.out.lives hgo1 hfine1 _) (by omega) (by have := HAr2.out; omega) (by have := HAr2.out; omega) HR2.out (by have := HAr2.out; omega) (HBs1.out.below HBW2.out) (by have := HAr2.out; omega) (by have := HAr2.out; omega) ((HBW2.out.cell (p := ⟨Vf1.heap.size + 1, 0, none⟩) (by have := HAr2.out; show Vf1.heap.size + 1 < _; omega)).trans HMs1.out) (by have := HAr2.out; omega) (by have := HAr2.out; omega) (by have := HAr2.out; omega) (HLs1.out.below HBW2.out) (HE.out.abides _ _ _ HIs1.out (HBW2.out.mono (by have := HAr2.out; omega))) ?round).mono (IterP.imp ?_ ?_))
          case round =>
            intro t2 y V2 hgo2 hfine2 hy12 hyr2 hylev2 hyf2 hcnt2 hk0 hle hIt
            obtain ⟨yv2, ylv, ⟨f02, b12, b22, b32, b42⟩, wy2⟩ := y
            dsimp only at hy12 hyr2 hylev2 hyf2
            subst hylev2
            have hrec0 : RecAt V2 l2 r2 .ready none := (hk0.block _ HR2.out.lt (HnY.out _ (by have := HAr2.out; omega) (by have := HAr2.out; omega))).trans HR2.out
            have HK20 := Lib.hid hk0
            have HL20 := Lib.hid hle
            have HI20 := Lib.hid hIt
            have hsz2 : l2 < V2.heap.size := Nat.lt_of_lt_of_le HR2.out.lt hk0.size
            clear hk0 hle hIt
            refine yield_of (F := Fence.wide) hrec0 (by rw [hrp2]; rfl) trivial ?_
            rw [hra2, hrt2, hrp2]
            have HRec2 := Lib.hid hrec0
            clear hrec0
            dsimp only [SltV]
            gi_wp2
            refine ⟨(Below.heap_alloc V2 _ _ HRec2.out.lt).trans HRec2.out, ?_⟩
            intro hbusy
            try rw [hrb2]
            have HKv2 : Hid (Keeps (fun k => Z k ∨ k = N + 1) w1 ((V2.alloc (Obj.cells #[.int .u64 (yv2 : Int), .int .i64 1, .int .u64 (f02 : Int), .bool b12, .bool b22, .bool b32, .bool b42, .int .i64 wy2] 69)).putObj l2 (.loop (recS r2 .busy none)))) := ((HKw2.out.trans HK20.out (fun _ _ h => h)).trans (Keeps.alloc (S := fun _ => False) _ _) (fun _ _ h => h.elim)).trans (Keeps.putObj _ l2 _) (fun i hi e => by have := HAr2.out; omega)
            have HBx2 : Hid (BoxS ((V2.alloc (Obj.cells #[.int .u64 (yv2 : Int), .int .i64 1, .int .u64 (f02 : Int), .bool b12, .bool b22, .bool b32, .bool b42, .int .i64 wy2] 69)).putObj l2 (.loop (recS r2 .busy none))) V2.heap.size yv2 1 (f02, b12, b22, b32, b42) wy2) := (BoxS.new V2 yv2 1 (f02, b12, b22, b32, b42) wy2).keeps (Keeps.putObj _ l2 _) (by omega)
            have HLv2 : Hid (LeftAt ((V2.alloc (Obj.cells #[.int .u64 (yv2 : Int), .int .i64 1, .int .u64 (f02 : Int), .bool b12, .bool b22, .bool b32, .bool b42, .int .i64 wy2] 69)).putObj l2 (.loop (recS r2 .busy none))) (N + 1) t2.left) := (HL20.out.below ((Below.refl _ _).alloc (Nat.le_refl _) _)).keeps (Keeps.putObj _ l2 _) (by have := HAr2.out; omega)
            have HIv2 : Hid (I t2.s ((V2.alloc (Obj.cells #[.int .u64 (yv2 : Int), .int .i64 1, .int .u64 (f02 : Int), .bool b12, .bool b22, .bool b32, .bool b42, .int .i64 wy2] 69)).putObj l2 (.loop (recS r2 .busy none)))) := HE.out.abides _ _ _ (HE.out.abides _ _ _ HI20.out ((Below.refl _ _).alloc (by have := HAr2.out; omega) _)) ((Keeps.putObj _ l2 _).below (by have := HAr2.out; simp; omega) (fun i _ e => by have := HAr2.out; omega))
            have HFin2 : Hid (∀ V5 (tt : St σ), Keeps (fun k => Z k ∨ k = N + 1) ((V2.alloc (Obj.cells #[.int .u64 (yv2 : Int), .int .i64 1, .int .u64 (f02 : Int), .bool b12, .bool b22, .bool b32, .bool b42, .int .i64 wy2] 69)).putObj l2 (.loop (recS r2 .busy none))) V5 → I tt.s V5 → _) := fun V5 tt hk hI => round_fin (t := tt) HE.out (by have := HAr2.out; omega) (by have := HAr2.out; omega) (by have := HAr2.out; omega) HR2.out HK20.out hk hI
            have hsb2 : V2.heap.size + 1 = ((V2.alloc (Obj.cells #[.int .u64 (yv2 : Int), .int .i64 1, .int .u64 (f02 : Int), .bool b12, .bool b22, .bool b32, .bool b42, .int .i64 wy2] 69)).putObj l2 (.loop (recS r2 .busy none))).heap.size := by simp
            have HRb2 := Lib.hid hbusy
            clear hbusy
            obtain ⟨Vb2, hVb⟩ : ∃ Vb, (V2.alloc (Obj.cells #[.int .u64 (yv2 : Int), .int .i64 1, .int .u64 (f02 : Int), .bool b12, .bool b22, .bool b32, .bool b42, .int .i64 wy2] 69)).putObj l2 (.loop (recS r2 .busy none)) = Vb := ⟨_, rfl⟩
            rw [hVb] at HKv2 HBx2 HLv2 HIv2 HFin2 HRb2 hsb2 ⊢
            clear hVb
            have HSb2 := Lib.hid hsb2
            clear hsb2
            have HFu : Hid (CallsIn Fence.wide _ Try.prog 21 _ Vb2 _) := further_any HE.out (n := n - 4 - 1) (L := most) t2 (yv2, 1, (f02, b12, b22, b32, b42), wy2) Vb2 hgo2 hfine2 h2 hy12 (by show 1 ≤ 2; decide) hyf2 (by have := HAr2.out; have := HSb2.out; omega) (by have := HMN.out; omega : N1 ≤ N + 1) (by omega : N ≠ N + 1) HLv2.out HIv2.out (HBase.out _ HKv2.out).2.1
            dsimp only [SltV] at HFu
            obtain ⟨tv2, htv2⟩ : ∃ tv, tv = visitS yd ct t2 (yv2, 1, (f02, b12, b22, b32, b42), wy2) := ⟨_, rfl⟩
            rw [← htv2] at HFu
            obtain ⟨x0, x1, x2, x3, x4, x5, x6, x7⟩ := HBx2.out.cells
            dsimp only at x0 x1 x2 x3 x4 x5 x6 x7
            obtain ⟨cF, cY, cM⟩ := HBase.out _ HKv2.out
            cases hg2 : tv2.go
            · rw [hg2] at HFu
              gi_wp2_with (refine ⟨trivial, fun h => absurd h (by decide), ?_⟩; refine (CallsIn.inRound l2 HFu.out).mono ?_; rintro e V5 ⟨rfl, hl5, hI5, hk5⟩)
              obtain ⟨q1, q2, q3⟩ := HFin2.out V5 tv2 hk5 hI5
              refine ⟨q1, ?_⟩
              rw [aft_stop (by rw [← htv2]; exact hg2), ← htv2]
              exact q3 hg2
            · rw [hg2] at HFu
              have hT2 : aft yd ct (deep2 lk yd ct) t2 (yv2, 1, (f02, b12, b22, b32, b42), wy2) = (if b12 then tabN lk yd ct deep3 f02 yv2 2 512 tv2 else tv2) := by rw [aft_on (by rw [← htv2]; exact hg2), ← htv2]; rfl
              obtain ⟨T2, hTT2⟩ : ∃ Tt, Tt = (if b12 then tabN lk yd ct deep3 f02 yv2 2 512 tv2 else tv2) := ⟨_, rfl⟩
              rw [hT2, ← hTT2]
              have HTT2 := Lib.hid hTT2
              have HTv2 := Lib.hid htv2
              clear hT2 hTT2 htv2
              have HSl : Hid (∀ w, Calls Try.prog 23 #[SltV yv2 1 (f02, b12, b22, b32, b42) wy2, .iface T u] w fun e w' => e = .returned (.func (.func 34) #[] #[.pointer (some ⟨w.heap.size, 0, none⟩), .pointer (some ⟨w.heap.size + 1, 0, none⟩)]) ∧ BoxS w' w.heap.size yv2 1 (f02, b12, b22, b32, b42) wy2 ∧ w'.cell? ⟨w.heap.size + 1, 0, none⟩ = some (.iface T u) ∧ w'.heap.size = w.heap.size + 2 ∧ Below w.heap.size w w') := fun w => sbelow_any yv2 1 (f02, b12, b22, b32, b42) wy2 T u w
              dsimp only [SltV] at HSl
              gi_wp2_with (first
                | (refine ⟨trivial, fun h => absurd h (by decide), ?_⟩; refine (CallsIn.inRound l2 HFu.out).mono ?_; rintro e Vf2 ⟨rfl, hl5, hI5, hk5⟩; clear HFu; have HLf2 := Lib.hid hl5; have HIf2 := Lib.hid hI5; have HKf2 := Lib.hid hk5; clear hl5 hI5 hk5; clear x0 x1 x2 x3 x4 x5 x6 x7 cF cY cM; obtain ⟨x0, x1, x2, x3, x4, x5, x6, x7⟩ := (HBx2.out.keeps HKf2.out (HnY.out _ (by have := HAr2.out; omega) (by have := HAr2.out; omega))).cells; dsimp only at x0 x1 x2 x3 x4 x5 x6 x7; obtain ⟨cF, cY, cM⟩ := HBase.out _ (HKv2.out.trans HKf2.out (fun _ _ h => h)))
                | (refine ⟨trivial, fun h => absurd h (by decide), ?_⟩; refine (CallsIn.inRound l2 (callsIn_wide.2 (HSl.out _))).mono ?_; rintro e Vs2 ⟨rfl, hb5, hm5, hs5, hB5⟩))
              have HBs2 := Lib.hid hb5
              have HMs2 := Lib.hid hm5
              have HSs2 := Lib.hid hs5
              have HBB2 := Lib.hid hB5
              clear hb5 hm5 hs5 hB5 x0 x1 x2 x3 x4 x5 x6 x7 cF cY cM HSl
              have HKs2 : Hid (Keeps (fun k => Z k ∨ k = N + 1) Vb2 Vs2) := HKf2.out.trans (Keeps.of_below (S := fun _ => False) HBB2.out) (fun _ _ h => h.elim)
              have HLs2 : Hid (LeftAt Vs2 (N + 1) tv2.left) := HLf2.out.below HBB2.out
              have HIs2 : Hid (I tv2.s Vs2) := HE.out.abides _ _ _ HIf2.out (HBB2.out.mono (by have := HAr2.out; have := HSb2.out; have := HKf2.out.size; omega))
              refine range_in (F := Fence.wide.inRound l2) (l₀ := l2) (r₀ := recS r2 .busy none) rfl ((HKs2.out.block l2 HRb2.out.lt (HnY.out _ (by have := HAr2.out; omega) (by have := HAr2.out; omega))).trans HRb2.out) (by omega) (gf := 34) (lb := #[.pointer (some ⟨Vf2.heap.size, 0, none⟩), .pointer (some ⟨Vf2.heap.size + 1, 0, none⟩)]) rfl trivial (enters_of Try.func34 (by kernel_rfl) rfl)
                (LvE I (fun k => Z k ∨ k = N + 1) (N + 1) Vs2 T2) (LvF I (fun k => Z k ∨ k = N + 1) Vs2 T2) ?it ?fin ?stop
              case fin =>
                rintro V5 ⟨hg5, hI5, hl5, hk5⟩
                gi_wp2
                obtain ⟨q1, q2, q3⟩ := HFin2.out V5 _ (HKs2.out.trans hk5 (fun _ _ h => h)) hI5
                exact ⟨q1, q2 hg5 hl5⟩
              case stop =>
                rintro c V5 ⟨rfl, hg5, hI5, hk5⟩
                gi_wp2
                obtain ⟨q1, q2, q3⟩ := HFin2.out V5 _ (HKs2.out.trans hk5 (fun _ _ h => h)) hI5
                exact ⟨q1, q3 hg5⟩
              case it =>
                intro W3 r3 _ hrt3 hrp3 hra3 hrb3 hW
                obtain ⟨l3, hl3⟩ : ∃ l, l = Vs2.heap.size := ⟨_, rfl⟩
                have HR3 : Hid (RecAt W3 l3 r3 .ready none) := by
                  have := World.alloc_heap_new Vs2 (.loop (recS r3 .ready none))
                  rw [← hW, ← hl3] at this
                  exact this
                have HBW3 : Hid (Below Vs2.heap.size Vs2 W3) := hW ▸ (Below.refl _ Vs2).alloc (Nat.le_refl _) _
                clear hW
                have HKw3 : Hid (Keeps (fun k => Z k ∨ k = N + 1) w1 W3) := (HKv2.out.trans HKs2.out (fun _ _ h => h)).trans (Keeps.of_below (S := fun _ => False) HBW3.out) (fun _ _ h => h.elim)
                have HAr3 : Hid (M = N + 2 ∧ N = N1 ∧ Bm < N ∧ w1.heap.size = M + 4 ∧ w1.heap.size ≤ l3 ∧ l3 < W3.heap.size ∧ l3 = Vf2.heap.size + 2 ∧ w1.heap.size ≤ Vf2.heap.size ∧ Vs2.heap.size = l3) := by
                  show _ ∧ _
                  have := HAr2.out
                  have := HR3.out.lt
                  have := HSs2.out
                  have := HKf2.out.size
                  have := HKv2.out.size
                  omega
                rw [← hl3]
                clear hl3
                rw [HTT2.out]
                have hcv : cnt tv2.s ≤ cnt t2.s := by rw [HTv2.out]; exact cnt_visit (ct := ct) HE.out.cy _ _
                refine CallsIn.inRound l2 ((inner_any HE.out (deep := deep3) (q := 0) (L := most) (cnt3) fine3 (virt := yv2) (lev := 2) (x := (f02, b12, b22, b32, b42)) (why := wy2) (by omega) hyf2 (by rw [show 512 * rch 2 = rch 1 from by decide]; exact hyr2) (t := tv2) hg2 (by rw [HTv2.out]; exact visit_fine HE.out.lives hgo2 hfine2 _) (by omega) (by have := HAr3.out; omega) (by have := HAr3.out; omega) HR3.out (by have := HAr3.out; omega) (HBs2.out.below HBW3.out) (by have := HAr3.out; omega) (by have := HAr3.out; omega) ((HBW3.out.cell (p := ⟨Vf2.heap.size + 1, 0, none⟩) (by have := HAr3.out; show Vf2.heap.size + 1 < _; omega)).trans HMs2.out) (by have := HAr3.out; omega) (by have := HAr3.out; omega) (by have := HAr3.out; omega) (HLs2.out.below HBW3.out) (HE.out.abides _ _ _ HIs2.out (HBW3.out.mono (by have := HAr3.out; omega))) ?round).mono (IterP.imp ?_ ?_))
                case round =>
                  intro t3 y V3 hgo3 hfine3 hy13 hyr3 hylev3 hyf3 hcnt3 hk0 hle hIt
                  obtain ⟨yv3, ylv, ⟨f03, b13, b23, b33, b43⟩, wy3⟩ := y
                  dsimp only at hy13 hyr3 hylev3 hyf3
                  subst hylev3
                  have hrec0 : RecAt V3 l3 r3 .ready none := (hk0.block _ HR3.out.lt (HnY.out _ (by have := HAr3.out; omega) (by have := HAr3.out; omega))).trans HR3.out
                  have HK30 := Lib.hid hk0
                  have HL30 := Lib.hid hle
                  have HI30 := Lib.hid hIt
                  have hsz3 : l3 < V3.heap.size := Nat.lt_of_lt_of_le HR3.out.lt hk0.size
                  clear hk0 hle hIt
                  refine yield_of (F := Fence.wide) hrec0 (by rw [hrp3]; rfl) trivial ?_
                  rw [hra3, hrt3, hrp3]
                  have HRec3 := Lib.hid hrec0
                  clear hrec0
                  dsimp only [SltV]
                  gi_wp2
                  refine ⟨(Below.heap_alloc V3 _ _ HRec3.out.lt).trans HRec3.out, ?_⟩
                  intro hbusy
                  try rw [hrb3]
                  have HKv3 : Hid (Keeps (fun k => Z k ∨ k = N + 1) w1 ((V3.alloc (Obj.cells #[.int .u64 (yv3 : Int), .int .i64 2, .int .u64 (f03 : Int), .bool b13, .bool b23, .bool b33, .bool b43, .int .i64 wy3] 69)).putObj l3 (.loop (recS r3 .busy none)))) := ((HKw3.out.trans HK30.out (fun _ _ h => h)).trans (Keeps.alloc (S := fun _ => False) _ _) (fun _ _ h => h.elim)).trans (Keeps.putObj _ l3 _) (fun i hi e => by have := HAr3.out; omega)
                  have HBx3 : Hid (BoxS ((V3.alloc (Obj.cells #[.int .u64 (yv3 : Int), .int .i64 2, .int .u64 (f03 : Int), .bool b13, .bool b23, .bool b33, .bool b43, .int .i64 wy3] 69)).putObj l3 (.loop (recS r3 .busy none))) V3.heap.size yv3 2 (f03, b13, b23, b33, b43) wy3) := (BoxS.new V3 yv3 2 (f03, b13, b23, b33, b43) wy3).keeps (Keeps.putObj _ l3 _) (by omega)
                  have HLv3 : Hid (LeftAt ((V3.alloc (Obj.cells #[.int .u64 (yv3 : Int), .int .i64 2, .int .u64 (f03 : Int), .bool b13, .bool b23, .bool b33, .bool b43, .int .i64 wy3] 69)).putObj l3 (.loop (recS r3 .busy none))) (N + 1) t3.left) := (HL30.out.below ((Below.refl _ _).alloc (Nat.le_refl _) _)).keeps (Keeps.putObj _ l3 _) (by have := HAr3.out; omega)
                  have HIv3 : Hid (I t3.s ((V3.alloc (Obj.cells #[.int .u64 (yv3 : Int), .int .i64 2, .int .u64 (f03 : Int), .bool b13, .bool b23, .bool b33, .bool b43, .int .i64 wy3] 69)).putObj l3 (.loop (recS r3 .busy none)))) := HE.out.abides _ _ _ (HE.out.abides _ _ _ HI30.out ((Below.refl _ _).alloc (by have := HAr3.out; omega) _)) ((Keeps.putObj _ l3 _).below (by have := HAr3.out; simp; omega) (fun i _ e => by have := HAr3.out; omega))
                  have HFin3 : Hid (∀ V5 (tt : St σ), Keeps (fun k => Z k ∨ k = N + 1) ((V3.alloc (Obj.cells #[.int .u64 (yv3 : Int), .int .i64 2, .int .u64 (f03 : Int), .bool b13, .bool b23, .bool b33, .bool b43, .int .i64 wy3] 69)).putObj l3 (.loop (recS r3 .busy none))) V5 → I tt.s V5 → _) := fun V5 tt hk hI => round_fin (t := tt) HE.out (by have := HAr3.out; omega) (by have := HAr3.out; omega) (by have := HAr3.out; omega) HR3.out HK30.out hk hI
                  have hsb3 : V3.heap.size + 1 = ((V3.alloc (Obj.cells #[.int .u64 (yv3 : Int), .int .i64 2, .int .u64 (f03 : Int), .bool b13, .bool b23, .bool b33, .bool b43, .int .i64 wy3] 69)).putObj l3 (.loop (recS r3 .busy none))).heap.size := by simp
                  have HRb3 := Lib.hid hbusy
                  clear hbusy
                  obtain ⟨Vb3, hVb⟩ : ∃ Vb, (V3.alloc (Obj.cells #[.int .u64 (yv3 : Int), .int .i64 2, .int .u64 (f03 : Int), .bool b13, .bool b23, .bool b33, .bool b43, .int .i64 wy3] 69)).putObj l3 (.loop (recS r3 .busy none)) = Vb := ⟨_, rfl⟩
                  rw [hVb] at HKv3 HBx3 HLv3 HIv3 HFin3 HRb3 hsb3 ⊢
                  clear hVb
                  have HSb3 := Lib.hid hsb3
                  clear hsb3
                  have HFu : Hid (CallsIn Fence.wide _ Try.prog 21 _ Vb3 _) := further_any HE.out (n := n - 6 - 1) (L := most) t3 (yv3, 2, (f03, b13, b23, b33, b43), wy3) Vb3 hgo3 hfine3 h2 hy13 (by show 2 ≤ 2; decide) hyf3 (by have := HAr3.out; have := HSb3.out; omega) (by have := HMN.out; omega : N1 ≤ N + 1) (by omega : N ≠ N + 1) HLv3.out HIv3.out (HBase.out _ HKv3.out).2.1
                  dsimp only [SltV] at HFu
                  obtain ⟨tv3, htv3⟩ : ∃ tv, tv = visitS yd ct t3 (yv3, 2, (f03, b13, b23, b33, b43), wy3) := ⟨_, rfl⟩
                  rw [← htv3] at HFu
                  obtain ⟨x0, x1, x2, x3, x4, x5, x6, x7⟩ := HBx3.out.cells
                  dsimp only at x0 x1 x2 x3 x4 x5 x6 x7
                  obtain ⟨cF, cY, cM⟩ := HBase.out _ HKv3.out
                  cases hg3 : tv3.go
                  · rw [hg3] at HFu
                    gi_wp2_with (refine ⟨trivial, fun h => absurd h (by decide), ?_⟩; refine (CallsIn.inRound l3 HFu.out).mono ?_; rintro e V5 ⟨rfl, hl5, hI5, hk5⟩)
                    obtain ⟨q1, q2, q3⟩ := HFin3.out V5 tv3 hk5 hI5
                    refine ⟨q1, ?_⟩
                    rw [aft_stop (by rw [← htv3]; exact hg3), ← htv3]
                    exact q3 hg3
                  · rw [hg3] at HFu
                    gi_wp2_with (refine ⟨trivial, fun h => absurd h (by decide), ?_⟩; refine (CallsIn.inRound l3 HFu.out).mono ?_; rintro e V5 ⟨rfl, hl5, hI5, hk5⟩)
                    obtain ⟨q1, q2, q3⟩ := HFin3.out V5 tv3 hk5 hI5
                    refine ⟨q1, ?_⟩
                    rw [aft_on (by rw [← htv3]; exact hg3), ← htv3, show (if b13 = true then deep3 f03 yv3 (2 + 1) tv3 else tv3) = tv3 from by split <;> rfl]
                    exact q2 hg3 hl5
                · rintro V ⟨d1, d2, d3, d4⟩
                  exact ⟨d1, d2, d3, (Keeps.of_below (S := (fun k => Z k ∨ k = N + 1)) HBW3.out).trans d4 (fun i hi h => h.elim id (fun e => by have := HAr3.out; omega))⟩
                · rintro c V ⟨d1, d2, d3, d4⟩
                  exact ⟨d1, d2, d3, (Keeps.of_below (S := (fun k => Z k ∨ k = N + 1)) HBW3.out).trans d4 (fun i hi h => h.elim id (fun e => by have := HAr3.out; omega))⟩
          · rintro V ⟨d1, d2, d3, d4⟩
            exact ⟨d1, d2, d3, (Keeps.of_below (S := (fun k => Z k ∨ k = N + 1)) HBW2.out).trans d4 (fun i hi h => h.elim id (fun e => by have := HAr2.out; omega))⟩
          · rintro c V ⟨d1, d2, d3, d4⟩
            exact ⟨d1, d2, d3, (Keeps.of_below (S := (fun k => Z k ∨ k = N + 1)) HBW2.out).trans d4 (fun i hi h => h.elim id (fun e => by have := HAr2.out; omega))⟩
    --END
    · rintro V ⟨d1, d2, d3, d4⟩
      have hd : V.heap[w1.heap.size]? = some (.deferred (some [])) := (d4.block _ (by have := HAr1.out; omega) (fun h => h.elim (HnY.out _ (by have := HAr1.out; omega) (by have := HAr1.out; omega)) (fun e => by have := HAr1.out; omega))).trans HD1.out
      exact ⟨⟨d1, d2, d3, HKw1.out.trans d4 (fun i hi h => h.elim id (fun e => by have := HAr1.out; omega))⟩, hd⟩
    · rintro c V ⟨d1, d2, d3, d4⟩
      have hd : V.heap[w1.heap.size]? = some (.deferred (some [])) := (d4.block _ (by have := HAr1.out; omega) (fun h => h.elim (HnY.out _ (by have := HAr1.out; omega) (by have := HAr1.out; omega)) (fun e => by have := HAr1.out; omega))).trans HD1.out
      exact ⟨⟨d1, d2, d3, HKw1.out.trans d4 (fun i hi h => h.elim id (fun e => by have := HAr1.out; omega))⟩, hd⟩
end
end Go.Proofs.Ytehedllcdpjebaa
/- walk without a memory; Leaves' call. Own work. -/
namespace Go.Proofs.Ytehedllcdpjebaa
open Go.RowKit Go.Shelf Wk Lv
attribute [local go_sem] Oper.semAt_some
set_option maxRecDepth 100000 in
set_option maxHeartbeats 2000000 in
theorem address_nil (r v : Nat) (acc : Int) (w : World) : Calls Try.prog 14 #[.nilIface, .int .u64 (r : Int), .int .u64 (v : Int), .int .i64 acc] w fun e w' => e = .returned (.tuple #[.int .u64 0, .int .i64 1]) ∧ Below w.heap.size w w' := by
  go_enter Try.func14, Try.ntmps14
  go_wp2_with fail
  refine bodyPost_ret (v := .tuple #[.int .u64 0, .int .i64 1]) (by simp [results, Try.results14, go_sem]) rfl ?_
  exact ⟨rfl, by first | exact Below.refl _ _ | exact (Below.refl _ _).alloc (Nat.le_refl _) _⟩
set_option maxRecDepth 100000 in
set_option maxHeartbeats 2000000 in
theorem translate_nil (r v : Nat) (acc : Int) (w : World) : Calls Try.prog 6 #[.nilIface, .int .u64 (r : Int), .int .u64 (v : Int), .int .i64 acc] w fun e w' => e = .returned (.tuple #[.int .u64 0, .agg #[.int .i64 1, .int .u64 (v : Int)]]) ∧ Below w.heap.size w w' := by
  have HA : Hid (∀ W, Calls Try.prog 14 #[.nilIface, .int .u64 (r : Int), .int .u64 (v : Int), .int .i64 acc] W fun e w' => e = .returned (.tuple #[.int .u64 0, .int .i64 1]) ∧ Below W.heap.size W w') := address_nil r v acc
  go_enter Try.func6, Try.ntmps6
  go_wp2_with fail
  refine (HA.out _).mono ?_
  rintro e W3 ⟨rfl, hb1⟩
  have HX3 : Hid (BoxF W3 w.heap.size 0 0) := (BoxF.new w 0 0).below hb1
  have HB3 : Hid (Below w.heap.size w W3) := ((Below.refl _ w).alloc (Nat.le_refl _) _).trans (hb1.mono (by simp))
  obtain ⟨x0, x1, f0, f1⟩ := HX3.out.cells
  clear HA hb1
  go_wp2_with fail
  obtain ⟨d0, d1, _⟩ := (HX3.out.set 1 v).cells
  refine bodyPost_ret (v := .tuple #[.int .u64 0, .agg #[.int .i64 1, .int .u64 (v : Int)]]) (by simp [results, Try.results6, go_sem, d0, d1]) rfl ?_
  exact ⟨rfl, HB3.out.trans ((Keeps.two W3 w.heap.size (.int .i64 1) (.int .u64 (v : Int))).below HB3.out.size (fun i _ e => by omega))⟩
set_option maxRecDepth 100000 in
set_option maxHeartbeats 2000000 in
theorem reached_nil (r v : Nat) (k acc : Int) (w : World) : Calls Try.prog 16 #[.nilIface, .int .u64 (r : Int), .int .u64 (v : Int), .int .i64 k, .int .i64 acc] w fun e w' => e = .returned (.tuple #[.slice none 0 0, .agg #[.int .i64 1, .int .u64 (v : Int)]]) ∧ Below w.heap.size w w' := by
  go_enter Try.func16, Try.ntmps16
  go_wp2_with fail
  obtain ⟨d0, d1, _⟩ := (BoxF.new w 1 v).cells
  refine bodyPost_ret (v := .tuple #[.slice none 0 0, .agg #[.int .i64 1, .int .u64 (v : Int)]]) (by simp [results, Try.results16, go_sem]) rfl ?_
  exact ⟨rfl, (Below.refl _ w).alloc (Nat.le_refl _) _⟩
set_option maxRecDepth 100000 in
set_option maxHeartbeats 2000000 in
theorem take_nil (r v : Nat) (k acc : Int) (w : World) : Calls Try.prog 15 #[.nilIface, .int .u64 (r : Int), .int .u64 (v : Int), .int .i64 k, .int .i64 acc] w fun e w' => e = .returned (.tuple #[.int .u64 0, .agg #[.int .i64 1, .int .u64 (v : Int)]]) ∧ Below w.heap.size w w' := by
  have HR : Hid (∀ W, Calls Try.prog 16 #[.nilIface, .int .u64 (r : Int), .int .u64 (v : Int), .int .i64 k, .int .i64 acc] W fun e w' => e = .returned (.tuple #[.slice none 0 0, .agg #[.int .i64 1, .int .u64 (v : Int)]]) ∧ Below W.heap.size W w') := reached_nil r v k acc
  go_enter Try.func15, Try.ntmps15
  go_wp2_with fail
  refine (HR.out _).mono ?_
  rintro e w1 ⟨rfl, hb1⟩
  have HX1 : Hid (BoxF w1 w.heap.size 0 0) := (BoxF.new w 0 0).below hb1
  have hlt := HX1.out.lt
  have HB1 : Hid (Below w.heap.size w w1) := ((Below.refl _ w).alloc (Nat.le_refl _) _).trans (hb1.mono (by simp))
  clear hb1 HR
  obtain ⟨W3, hW3⟩ : ∃ W3, w1.alloc (Obj.cells #[.int .i64 1, .int .u64 (v : Int)] 27) = W3 := ⟨_, rfl⟩
  have HF3 : Hid (BoxF W3 w1.heap.size 1 v) := hW3 ▸ BoxF.new w1 1 v
  have HX3 : Hid (BoxF W3 w.heap.size 0 0) := hW3 ▸ HX1.out.below ((Below.refl _ _).alloc (Nat.le_refl _) _)
  have HB3 : Hid (Below w.heap.size w W3) := hW3 ▸ HB1.out.alloc HB1.out.size _
  have hne : w.heap.size ≠ w1.heap.size := by omega
  obtain ⟨x0, x1, f0, f1⟩ := HX3.out.cells
  obtain ⟨y0, y1, _, _⟩ := HF3.out.cells
  go_wp2_with fail
  clear hW3
  go_region_held3 (fun w' => w'.cell? ⟨w1.heap.size, 0, none⟩ = some (.int .i64 1) ∧ w'.cell? ⟨w1.heap.size, 1, none⟩ = some (.int .u64 (v : Int))) (go_keep) (fail)
  go_wp2_with fail
  obtain ⟨d0, d1, _⟩ := BoxF.cells (w := ((W3.setCell ⟨w.heap.size, 0, none⟩ (.int .i64 1)).setCell ⟨w.heap.size, 1, none⟩ (.int .u64 (v : Int))).drew) (HX3.out.set 1 v)
  refine bodyPost_ret (v := .tuple #[.int .u64 0, .agg #[.int .i64 1, .int .u64 (v : Int)]]) (by simp [results, Try.results15, go_sem, d0, d1]) rfl ?_
  exact ⟨rfl, (HB3.out.trans ((Keeps.two W3 w.heap.size (.int .i64 1) (.int .u64 (v : Int))).below HB3.out.size (fun i _ e => by omega))).drew⟩
set_option maxRecDepth 100000 in
set_option maxHeartbeats 2000000 in
theorem load_nil (r v : Nat) (k : Int) (w : World) : Calls Try.prog 7 #[.nilIface, .int .u64 (r : Int), .int .u64 (v : Int), .int .i64 k] w fun e w' => e = .returned (.tuple #[.int .u64 0, .agg #[.int .i64 1, .int .u64 (v : Int)]]) ∧ Below w.heap.size w w' := by
  have HA : Hid (∀ W, Calls Try.prog 15 #[.nilIface, .int .u64 (r : Int), .int .u64 (v : Int), .int .i64 k, .int .i64 1] W fun e w' => e = .returned (.tuple #[.int .u64 0, .agg #[.int .i64 1, .int .u64 (v : Int)]]) ∧ Below W.heap.size W w') := take_nil r v k 1
  go_enter Try.func7, Try.ntmps7
  go_wp2_with fail
  refine (HA.out _).mono ?_
  rintro e W3 ⟨rfl, hb1⟩
  have HX3 : Hid (BoxF W3 w.heap.size 0 0) := (BoxF.new w 0 0).below hb1
  have HB3 : Hid (Below w.heap.size w W3) := ((Below.refl _ w).alloc (Nat.le_refl _) _).trans (hb1.mono (by simp))
  obtain ⟨x0, x1, f0, f1⟩ := HX3.out.cells
  clear HA hb1
  go_wp2_with fail
  obtain ⟨d0, d1, _⟩ := (HX3.out.set 1 v).cells
  refine bodyPost_ret (v := .tuple #[.int .u64 0, .agg #[.int .i64 1, .int .u64 (v : Int)]]) (by simp [results, Try.results7, go_sem, d0, d1]) rfl ?_
  exact ⟨rfl, HB3.out.trans ((Keeps.two W3 w.heap.size (.int .i64 1) (.int .u64 (v : Int))).below HB3.out.size (fun i _ e => by omega))⟩
set_option maxRecDepth 100000 in
set_option maxHeartbeats 2000000 in
theorem store_nil (r v : Nat) (k : Int) (z : Nat) (w : World) : Calls Try.prog 8 #[.nilIface, .int .u64 (r : Int), .int .u64 (v : Int), .int .i64 k, .int .u64 (z : Int)] w fun e w' => e = .returned (.agg #[.int .i64 1, .int .u64 (v : Int)]) ∧ Below w.heap.size w w' := by
  have HR : Hid (∀ W, Calls Try.prog 16 #[.nilIface, .int .u64 (r : Int), .int .u64 (v : Int), .int .i64 k, .int .i64 2] W fun e w' => e = .returned (.tuple #[.slice none 0 0, .agg #[.int .i64 1, .int .u64 (v : Int)]]) ∧ Below W.heap.size W w') := reached_nil r v k 2
  go_enter Try.func8, Try.ntmps8
  go_wp2_with fail
  refine (HR.out _).mono ?_
  rintro e w1 ⟨rfl, hb1⟩
  have HX1 : Hid (BoxF w1 w.heap.size 0 0) := (BoxF.new w 0 0).below hb1
  have hlt := HX1.out.lt
  have HB1 : Hid (Below w.heap.size w w1) := ((Below.refl _ w).alloc (Nat.le_refl _) _).trans (hb1.mono (by simp))
  clear hb1 HR
  obtain ⟨W3, hW3⟩ : ∃ W3, w1.alloc (Obj.cells #[.int .i64 1, .int .u64 (v : Int)] 27) = W3 := ⟨_, rfl⟩
  have HF3 : Hid (BoxF W3 w1.heap.size 1 v) := hW3 ▸ BoxF.new w1 1 v
  have HX3 : Hid (BoxF W3 w.heap.size 0 0) := hW3 ▸ HX1.out.below ((Below.refl _ _).alloc (Nat.le_refl _) _)
  have HB3 : Hid (Below w.heap.size w W3) := hW3 ▸ HB1.out.alloc HB1.out.size _
  have hne : w.heap.size ≠ w1.heap.size := by omega
  obtain ⟨x0, x1, f0, f1⟩ := HX3.out.cells
  obtain ⟨y0, y1, _, _⟩ := HF3.out.cells
  go_wp2_with fail
  clear hW3
  obtain ⟨d0, d1, _⟩ := (HX3.out.set 1 v).cells
  refine bodyPost_ret (v := .agg #[.int .i64 1, .int .u64 (v : Int)]) (by simp [results, Try.results8, go_sem, d0, d1]) rfl ?_
  exact ⟨rfl, HB3.out.trans ((Keeps.two W3 w.heap.size (.int .i64 1) (.int .u64 (v : Int))).below HB3.out.size (fun i _ e => by omega))⟩
theorem cell_first (w : World) (v : Value) (t : TypeId) : (w.alloc (Obj.cells #[v] t)).cell? ⟨w.heap.size, 0, none⟩ = some v := by
  have := World.alloc_heap_new w (Obj.cells #[v] t)
  revert this
  generalize w.alloc _ = Wn
  intro this
  simp [World.cell?, this]
theorem cell_at {w : World} {v : Value} {t : TypeId} {k : Nat} (hk : k = w.heap.size) : (w.alloc (Obj.cells #[v] t)).cell? ⟨k, 0, none⟩ = some v := by
  subst hk
  exact cell_first w v t
theorem cell_more {w : World} {g : Nat} {v : Value} (o : Obj) (h : w.cell? ⟨g, 0, none⟩ = some v) : (w.alloc o).cell? ⟨g, 0, none⟩ = some v := (Keeps.alloc (S := fun _ => False) w o).cell' h (fun h => h)
set_option maxRecDepth 100000 in
set_option maxHeartbeats 2000000 in
theorem leaves_call (mv : Value) (hmv : mv = .nilIface ∨ ∃ T u, mv = .iface T u) (root : Nat) (most : Int) (w : World) : Calls Try.prog 9 #[mv, .int .u64 (root : Int), .int .i64 most] w fun e w' => e = .returned (.func (.func 19) #[] #[.pointer (some ⟨w.heap.size, 0, none⟩), .pointer (some ⟨w.heap.size + 2, 0, none⟩), .pointer (some ⟨w.heap.size + 1, 0, none⟩)]) ∧ w'.cell? ⟨w.heap.size, 0, none⟩ = some mv ∧ w'.cell? ⟨w.heap.size + 2, 0, none⟩ = some (.int .i64 most) ∧ w'.cell? ⟨w.heap.size + 1, 0, none⟩ = some (.int .u64 (root : Int)) ∧ w'.heap.size = w.heap.size + 3 ∧ Below w.heap.size w w' := by
  rcases hmv with rfl | ⟨T, u, rfl⟩
  all_goals (
    go_enter Try.func9, Try.ntmps9
    go_wp2
    go_ret
    refine ⟨rfl, ?_, ?_, ?_, by simp, (((Below.refl _ w).alloc (Nat.le_refl _) _).alloc (by simp) _).alloc (by simp; omega) _⟩
    · exact cell_more _ (cell_more _ (cell_first _ _ _))
    · exact cell_at (by simp)
    · exact cell_more _ (cell_at (by simp)))
set_option maxRecDepth 100000 in
set_option maxHeartbeats 2000000 in
theorem leaves1_nil {n l0 Bm Bo Br : Nat} {W : World} (hBm : W.cell? ⟨Bm, 0, none⟩ = some .nilIface) :
    CallsIn Fence.wide n Try.prog 19 #[.func (.yield l0) #[] #[], .pointer (some ⟨Bm, 0, none⟩), .pointer (some ⟨Bo, 0, none⟩), .pointer (some ⟨Br, 0, none⟩)] W fun e W' => (∃ v, e = .returned v) ∧ Below W.heap.size W W' := by
  have hbm : Bm < W.heap.size := World.block_lt_of_cell? W _ hBm
  refine callsIn_of_wp_marks Try.func19 rfl trivial ?_ rfl
  simp only [Try.ntmps19, List.size_toArray, List.length_cons, List.length_nil, Nat.reduceAdd, Nat.reduceSub, Array.replicate_succ, Array.replicate_zero, List.push_toArray, List.append_toArray, List.nil_append, List.cons_append]
  gi_wp2
  exact ⟨_, results_none rfl _ _ _, ⟨_, rfl⟩, (Below.refl _ W).alloc (Nat.le_refl _) _⟩
end Go.Proofs.Ytehedllcdpjebaa
/- WalkNames, walked. Own work. -/
namespace Go.Proofs.Ytehedllcdpjebaa
open Go.RowKit Go.Maps Go.Shelf Go.Proofs.Ytehedllcdpjebaa.Sp Wk Lv
attribute [local go_sem] Oper.semAt_some
theorem equal_seq_nil (d : Nat) (w : World) (k : Nat) (xs : Array Value) : (Op.equalIn (d + 1) 32 (.func (.func k) #[] xs) .nilFunc).run Try.prog w = .ok false w := by
  have u := Try.underlying32
  unfold Op.equalIn
  simp only [Sem.run_bind, run_underlying u, Result.andThen_ok, Sem.run_pure]
theorem eql_seq_nil (w : World) (k : Nat) (xs : Array Value) : (binOp .eql 32 (.func (.func k) #[] xs) .nilFunc).run Try.prog w = .ok (.bool false) w := by
  have h := equal_seq_nil 9999 w k xs
  have e : binOp .eql 32 (.func (.func k) #[] xs) .nilFunc = (do pure (.bool (← Op.equalIn (9999 + 1) 32 (.func (.func k) #[] xs) .nilFunc)) : Sem Value) := by rfl
  rw [e, Sem.run_bind, h]
  rfl
theorem nqlF (w : World) (a b c d : Int) : (binOp .neq 27 (.agg #[.int .i64 a, .int .u64 b]) (.agg #[.int .i64 c, .int .u64 d])).run Try.prog w = .ok (.bool (!((a == c) && (b == d)))) w := by
  have u1 := Try.underlying25
  have a1 := Try.isAgg25
  have z1 := Try.sizeOf25
  have u := Try.underlying24
  have a2 := Try.isAgg24
  have z := Try.sizeOf24
  have hS : Try.prog.underlying 27 = some (.struct (Try.prog.fieldsOf 27)) := by kernel_rfl
  have hp : Try.prog.stoodInHeld 27 = false := by kernel_rfl
  rw [run_neq_struct, show (10000 : Nat) = 9999 + 1 from rfl, run_equalIn_agg w 9999 27 _ _ hS hp]
  simp only [Program.fieldsOf, Try.underlying27]
  go_simp
  by_cases h1 : a = c <;> by_cases h2 : b = d <;> simp [h1, h2]
theorem nqlL (w : World) (a b c : Int) (d e f : Bool) (a' b' c' : Int) (d' e' f' : Bool) : (binOp .neq 35 (.agg #[.int .u64 a, .int .u64 b, .int .i64 c, .bool d, .bool e, .bool f]) (.agg #[.int .u64 a', .int .u64 b', .int .i64 c', .bool d', .bool e', .bool f'])).run Try.prog w = .ok (.bool (!((a == a') && (b == b') && (c == c') && (d == d') && (e == e') && (f == f')))) w := by
  have u1 := Try.underlying4
  have a1 := Try.isAgg4
  have z1 := Try.sizeOf4
  have u3 := Try.underlying3
  have a3 := Try.isAgg3
  have z3 := Try.sizeOf3
  have u := Try.underlying24
  have a2 := Try.isAgg24
  have z := Try.sizeOf24
  have hS : Try.prog.underlying 35 = some (.struct (Try.prog.fieldsOf 35)) := by kernel_rfl
  have hp : Try.prog.stoodInHeld 35 = false := by kernel_rfl
  rw [run_neq_struct, show (10000 : Nat) = 9999 + 1 from rfl, run_equalIn_agg w 9999 35 _ _ hS hp]
  simp only [Program.fieldsOf, Try.underlying35]
  go_simp
  by_cases h1 : a = a' <;> by_cases h2 : b = b' <;> by_cases h3 : c = c' <;> by_cases h4 : d = d' <;> by_cases h5 : e = e' <;> by_cases h6 : f = f' <;> simp [h1, h2, h3, h4, h5, h6]
theorem guardL : Try.prog.eqGuardType Try.prog.depth 35 = false := by kernel_rfl
theorem lookx_any {w : World} {m B : Nat} {V : Value × Value × Value} {T : Nat → Option Nat} {M : Nat → Nat} {rs ds : List Sp} {n t k : Nat} {l : Int} (h : Mx w m B V T M rs ds n) (ht : t + 8 * k ≤ 18446744073709551615) (hn : n ≤ 4611686018427387904) :
    Calls Try.prog 35 #[MemV m, .int .u64 (t : Int), .int .u64 (k : Int), .int .i64 l] w fun e w' => e = .returned (.tuple #[EntV (lookF (rs ++ ds) M (t + 8 * k) l).1, .int .i64 (lookF (rs ++ ds) M (t + 8 * k) l).2]) ∧ Mx w' m B V T M rs ds (n + 1) ∧ Keeps (fun j => j = m) w w' := by
  obtain ⟨L, S, X, h1, h2, h3, h4⟩ := h
  refine (look_any h4 ht (by omega)).mono ?_
  rintro e w' ⟨r, b, rfl, hr, hm, hk⟩
  rw [look_is hr]
  exact ⟨rfl, ⟨L, S, up b X, by omega, by omega, by cases b <;> simp [up] <;> omega, hm⟩, hk⟩
end Go.Proofs.Ytehedllcdpjebaa
/- WalkNames: what Leaves tells of the small machine. Own work. -/
namespace Go.Proofs.Ytehedllcdpjebaa
open Go.RowKit Go.Maps Go.Proofs.Ytehedllcdpjebaa.Sp Wk Lv
abbrev SN := Nat × Int × Bool
noncomputable def lkN (s : SN) (fr i lev : Nat) : (Ent × Int) × SN := (lookF (rsF ++ []) MG (fr + 8 * i) (lev : Int), (s.1 + 1, s.2))
def okN (x : Slt) : Bool := decide (x.1 = 12288 ∧ x.2.2.1.1 = 20480 ∧ pgs x.2.1 = 1 ∧ x.2.2.1.2.2 = (false, true, false) ∧ x.2.2.2 = 0)
def ydN (s : SN) (x : Slt) : SN := (s.1, wrap64 (s.2.1 + 1), okN x)
def ctN (_ : SN) (x : Slt) : Bool := okN x
theorem run3 (q : Nat) : tabN lkN ydN ctN deep3 12288 0 2 512 { s := (q, 0, true), left := 1, go := true } = { s := (q + 4, 1, true), left := 0, go := false } := by
  have e0 : tabN lkN ydN ctN deep3 12288 0 2 0 { s := (q, 0, true), left := 1, go := true } = { s := (q, 0, true), left := 1, go := true } := rfl
  have e1 : tabN lkN ydN ctN deep3 12288 0 2 1 { s := (q, 0, true), left := 1, go := true } = { s := (q + 1, 0, true), left := 1, go := true } := by
    rw [tabN_go (by rw [e0]), e0, step_absent (by show (lookF _ _ _ _).2 = 41; rw [look_Gz (.inl rfl)])]
    rfl
  have e2 : tabN lkN ydN ctN deep3 12288 0 2 2 { s := (q, 0, true), left := 1, go := true } = { s := (q + 2, 0, true), left := 1, go := true } := by
    rw [tabN_go (by rw [e1]), e1, step_absent (by show (lookF _ _ _ _).2 = 41; rw [look_Gz (.inr (.inl rfl))])]
    rfl
  have e3 : tabN lkN ydN ctN deep3 12288 0 2 3 { s := (q, 0, true), left := 1, go := true } = { s := (q + 3, 0, true), left := 1, go := true } := by
    rw [tabN_go (by rw [e2]), e2, step_absent (by show (lookF _ _ _ _).2 = 41; rw [look_Gz (.inr (.inr rfl))])]
    rfl
  have hl : lkN (q + 3, 0, true) 12288 3 2 = (((20480, false, false, true, false), 0), (q + 4, 0, true)) := by
    show (lookF _ _ _ _, _) = _
    rw [look_G2]
  have e4 : tabN lkN ydN ctN deep3 12288 0 2 4 { s := (q, 0, true), left := 1, go := true } = { s := (q + 4, 1, true), left := 0, go := false } := by
    rw [tabN_go (by rw [e3]), e3, step_aft (by rw [hl]; simp), hl]
    have hok : okN (slotS 0 2 3 ((20480, false, false, true, false), 0)) = true := by decide
    have hv : visitS ydN ctN { s := (q + 4, 0, true), left := 1, go := true } (slotS 0 2 3 ((20480, false, false, true, false), 0)) = { s := (q + 4, 1, true), left := 0, go := false } := by
      unfold visitS
      rw [if_neg (by decide)]
      show St.mk (q + 4, wrap64 (0 + 1), okN _) _ (ctN _ _ && _) = _
      rw [hok, show wrap64 (0 + 1) = 1 from by unfold wrap64; omega]
      simp
    unfold aft
    rw [hv]
    rfl
  rw [tabN_end (by rw [e4]) (by omega), e4]
theorem run2 (q : Nat) : tabN lkN ydN ctN (deep2 lkN ydN ctN) 8192 0 1 512 { s := (q, 0, true), left := 2, go := true } = { s := (q + 5, 1, true), left := 0, go := false } := by
  have hl : lkN (q, 0, true) 8192 0 1 = (((12288, true, false, false, false), 0), (q + 1, 0, true)) := by
    show (lookF _ _ _ _, _) = _
    rw [look_G1]
  have e1 : tabN lkN ydN ctN (deep2 lkN ydN ctN) 8192 0 1 1 { s := (q, 0, true), left := 2, go := true } = { s := (q + 5, 1, true), left := 0, go := false } := by
    rw [tabN_go rfl, show tabN lkN ydN ctN (deep2 lkN ydN ctN) 8192 0 1 0 { s := (q, 0, true), left := 2, go := true } = { s := (q, 0, true), left := 2, go := true } from rfl, step_aft (by rw [hl]; simp), hl]
    have hv : visitS ydN ctN { s := (q + 1, 0, true), left := 2, go := true } (slotS 0 1 0 ((12288, true, false, false, false), 0)) = { s := (q + 1, 0, true), left := 1, go := true } := by
      unfold visitS
      rw [if_pos (by decide)]
      rfl
    unfold aft
    rw [hv]
    simp only [slotS, Bool.and_self, if_true, Nat.zero_mul, Nat.add_zero]
    unfold deep2
    exact run3 (q + 1)
  rw [tabN_end (by rw [e1]) (by omega), e1]
theorem run1 : allS lkN ydN ctN 4096 { s := (0, 0, true), left := 3, go := true } = { s := (6, 1, true), left := 0, go := false } := by
  have hl : lkN (0, 0, true) 4096 0 0 = (((8192, true, false, false, false), 0), (1, 0, true)) := by
    show (lookF _ _ _ _, _) = _
    rw [look_G0]
  have e1 : tabN lkN ydN ctN (deep1 lkN ydN ctN) 4096 0 0 1 { s := (0, 0, true), left := 3, go := true } = { s := (6, 1, true), left := 0, go := false } := by
    rw [tabN_go rfl, show tabN lkN ydN ctN (deep1 lkN ydN ctN) 4096 0 0 0 { s := (0, 0, true), left := 3, go := true } = { s := (0, 0, true), left := 3, go := true } from rfl, step_aft (by rw [hl]; simp), hl]
    have hv : visitS ydN ctN { s := (1, 0, true), left := 3, go := true } (slotS 0 0 0 ((8192, true, false, false, false), 0)) = { s := (1, 0, true), left := 2, go := true } := by
      unfold visitS
      rw [if_pos (by decide)]
      rfl
    unfold aft
    rw [hv]
    simp only [slotS, Bool.and_self, if_true, Nat.zero_mul, Nat.add_zero]
    unfold deep1
    exact run2 1
  unfold allS
  rw [tabN_end (by rw [e1]) (by omega), e1]
end Go.Proofs.Ytehedllcdpjebaa
/- WalkNames: whoever is told. Own work. -/
namespace Go.Proofs.Ytehedllcdpjebaa
open Go.RowKit Go.Maps Go.Shelf Go.Proofs.Ytehedllcdpjebaa.Sp Wk Lv
attribute [local go_sem] Oper.semAt_some
/-- a number in a block -/
def IntAt (w : World) (g : Nat) (n : Int) : Prop := w.heap[g]? = some (.cells #[.int .i64 n] 3 (0, 0))
theorem IntAt.lt {w : World} {g : Nat} {n : Int} (h : IntAt w g n) : g < w.heap.size := (Array.getElem?_eq_some_iff.1 (show w.heap[g]? = _ from h)).1
theorem IntAt.keeps {Z : Nat → Prop} {w w' : World} {g : Nat} {n : Int} (h : IntAt w g n) (hk : Keeps Z w w') (hn : ¬ Z g) : IntAt w' g n := (hk.block g h.lt hn).trans h
theorem IntAt.below {w w' : World} {g : Nat} {n : Int} (h : IntAt w g n) (hb : Below w.heap.size w w') : IntAt w' g n := (hb.block g h.lt).trans h
theorem IntAt.cell {w : World} {g : Nat} {n : Int} (h : IntAt w g n) : w.cell? ⟨g, 0, none⟩ = some (.int .i64 n) := by
  have h' : w.heap[g]? = _ := h
  simp [World.cell?, h']
theorem IntAt.frozen {w : World} {g : Nat} {n : Int} (h : IntAt w g n) : w.frozen? ⟨g, 0, none⟩ = false := by
  have h' : w.heap[g]? = _ := h
  simp [World.frozen?, h']
theorem IntAt.set {w : World} {g : Nat} {n : Int} (h : IntAt w g n) (m : Int) : IntAt (w.setCell ⟨g, 0, none⟩ (.int .i64 m)) g m := by
  have h' : w.heap[g]? = _ := h
  simp [IntAt, World.setCell, Array.getElem?_modify, h']
/-- where the law's loop stands -/
structure NmI (m B : Nat) (V : Value × Value × Value) (T : Nat → Option Nat) (n0 l0 : Nat) (r : Loop) (Bt : Nat) (s : SN) (W : World) : Prop where
  mac : Mx W m B V T MG rsF [] (n0 + s.1)
  record : RecAt W l0 r .ready none
  told : IntAt W Bt s.2.1
theorem look_frm (LL : List Sp) (M : Nat → Nat) (a : Nat) (l : Int) : (lookF LL M a l).1.1 + 4096 ≤ 18446744073709551616 := by
  unfold lookF
  split
  · have := (ent_lt (e := Pl.num 8 (rdTo M a 8 8)) (l := l) (y := (entB (Pl.num 8 (rdTo M a 8 8)) l).1) (k := (entB (Pl.num 8 (rdTo M a 8 8)) l).2) rfl).1
    omega
  · decide
/-- a result in a block -/
def BoxR (w : World) (g : Nat) (b : Bool) : Prop := w.heap[g]? = some (.cells #[.bool b] 4 (0, 0))
theorem BoxR.lt {w : World} {g : Nat} {b : Bool} (h : BoxR w g b) : g < w.heap.size := (Array.getElem?_eq_some_iff.1 (show w.heap[g]? = _ from h)).1
theorem BoxR.keeps {Z : Nat → Prop} {w w' : World} {g : Nat} {b : Bool} (h : BoxR w g b) (hk : Keeps Z w w') (hn : ¬ Z g) : BoxR w' g b := (hk.block g h.lt hn).trans h
theorem BoxR.below {w w' : World} {g : Nat} {b : Bool} (h : BoxR w g b) (hb : Below w.heap.size w w') : BoxR w' g b := (hb.block g h.lt).trans h
theorem BoxR.cell {w : World} {g : Nat} {b : Bool} (h : BoxR w g b) : w.cell? ⟨g, 0, none⟩ = some (.bool b) ∧ w.frozen? ⟨g, 0, none⟩ = false := by
  have h' : w.heap[g]? = _ := h
  simp [World.cell?, World.frozen?, h']
theorem BoxR.set {w : World} {g : Nat} {b : Bool} (h : BoxR w g b) (c : Bool) : BoxR (w.setCell ⟨g, 0, none⟩ (.bool c)) g c := by
  have h' : w.heap[g]? = _ := h
  simp [BoxR, World.setCell, Array.getElem?_modify, h']
theorem BoxR.new (w : World) (b : Bool) : BoxR (w.alloc (Obj.cells #[.bool b] 4)) w.heap.size b := World.alloc_heap_new w _
/-- the law's boxes -/
structure NmB (W : World) (b0 bf bg bh : Nat) (x1 y1 x2 y2 x3 y3 : Int) : Prop where
  r : BoxR W b0 false
  f : BoxF W bf x1 y1
  g : BoxF W bg x2 y2
  h : BoxF W bh x3 y3
set_option maxRecDepth 100000 in
set_option maxHeartbeats 8000000 in
theorem names_walk (w : World) : Calls Try.prog 3 #[] w fun e w' => e = .returned (.bool true) ∧ Below w.heap.size w w' := by
  refine (callsIn_wide (n := 20)).1 ?_
  refine callsIn_of_wp_marks Try.func3 rfl trivial ?_ rfl
  simp only [Try.ntmps3, List.size_toArray, List.length_nil, Nat.reduceSub, Array.replicate_succ, Array.replicate_zero, List.push_toArray, List.append_toArray, List.nil_append, List.cons_append]
  refine wpIn_wide.2 ?_
  go_wp2_with fail
  have HR0 := Lib.hid (BoxR.new w false)
  refine (few_more _).mono ?_
  rintro e w1 ⟨m, B, V, T, rfl, HM1, HB1, HJ1⟩
  have HW1 := Lib.hid (HJ1.out m (.inl rfl))
  have HR1 : Hid (BoxR w1 w.heap.size false) := HR0.out.below HB1.out
  have HMi : Hid (∀ j, Mine m B V T j → j < w1.heap.size) := fun j hj => HM1.out.mine_lt hj
  have hm1 : w.heap.size < m := by have := HW1.out; simp at this; omega
  have hlm := HM1.out.lt
  have HBw1 : Hid (Below w.heap.size w w1) := ((Below.refl _ w).alloc (Nat.le_refl _) _).trans (HB1.out.mono (by simp))
  clear HR0 HB1 HW1
  have HT1 : Hid (∀ W, Mx W m B V T MF rsF [] 3 → Calls Try.prog 6 #[.iface 22 (.pointer (some ⟨m, 0, none⟩)), .int .u64 4096, .int .u64 12304, .int .i64 1] W fun e w' => e = .returned (.tuple #[.int .u64 20496, .agg #[.int .i64 0, .int .u64 0]]) ∧ Hid (Mx w' m B V T MF rsF [] 4) ∧ Hid (Keeps (fun j => j = m) W w')) := fun W hW => by
    refine (translate_any (t := 4096) (v := 12304) (acc := 1) hW (by omega) (by omega) (by omega)).mono ?_
    rintro e w' ⟨rfl, h1, h2⟩
    rw [page_F (by omega) (by omega) (.inl rfl)]
    exact ⟨rfl, h1, h2⟩
  have HT2 : Hid (∀ W, Mx W m B V T MF rsF [] 4 → Calls Try.prog 6 #[.iface 22 (.pointer (some ⟨m, 0, none⟩)), .int .u64 4096, .int .u64 12304, .int .i64 3] W fun e w' => e = .returned (.tuple #[.int .u64 0, .agg #[.int .i64 44, .int .u64 12304]]) ∧ Hid (Mx w' m B V T MF rsF [] 5) ∧ Hid (Keeps (fun j => j = m) W w')) := fun W hW => by
    refine (translate_any (t := 4096) (v := 12304) (acc := 3) hW (by omega) (by omega) (by omega)).mono ?_
    rintro e w' ⟨rfl, h1, h2⟩
    rw [adr_F (.inr rfl) (by omega) (by omega)]
    exact ⟨rfl, h1, h2⟩
  have HL3 : Hid (∀ W, Mx W m B V T MF rsF [] 5 → Calls Try.prog 7 #[.iface 22 (.pointer (some ⟨m, 0, none⟩)), .int .u64 4096, .int .u64 16382, .int .i64 4] W fun e w' => e = .returned (.tuple #[.int .u64 0, .agg #[.int .i64 41, .int .u64 16384]]) ∧ Hid (Mx w' m B V T MF rsF [] 37) ∧ Hid (Keeps (fun j => j = m) W w')) := fun W hW => by
    refine (wload_any (t := 4096) (v := 16382) (k := 4) hW (by omega) (by omega) (.inr (.inr (.inl rfl)))).mono ?_
    rintro e w' ⟨rfl, h1, h2⟩
    rw [take_h]
    exact ⟨rfl, h1, h2⟩
  have HS4 : Hid (∀ W, Mx W m B V T MF rsF [] 37 → Calls Try.prog 8 #[.iface 22 (.pointer (some ⟨m, 0, none⟩)), .int .u64 4096, .int .u64 16383, .int .i64 1, .int .u64 511] W fun e w' => e = .returned (.agg #[.int .i64 0, .int .u64 0]) ∧ ∃ T', Hid (Mx w' m B V T' MG rsF [] 69) ∧ Hid (Grows W.heap.size T T') ∧ Hid (Keeps (fun j => j = m ∨ Foot B T j) W w')) := fun W hW => by
    refine (wstore_any (t := 4096) (v := 16383) (k := 1) (val := 511) hW (by omega) (by omega) (by omega) (.inl rfl)).mono ?_
    rintro e w' (⟨why, x, h1, _⟩ | ⟨_, _, rfl, T', h1, h2, h3⟩)
    · rw [show rsF ++ [] = rsF ++ [] from rfl, reach_s] at h1
      cases h1
    · rw [st_s] at h1
      exact ⟨rfl, T', h1, h2, h3⟩
  go_wp2_with fail
  refine (HT1.out _ HM1.out).mono ?_
  rintro e w2 ⟨rfl, HM2, HK2⟩
  clear HT1 HM1
  have hz2 := HK2.out.size
  go_wp2_with fail
  obtain ⟨W2, hW2⟩ : ∃ W2, w2.alloc (Obj.cells #[.int .i64 0, .int .u64 0] 27) = W2 := ⟨_, rfl⟩
  have HB2 : Hid (Below w2.heap.size w2 W2) := hW2 ▸ (Below.refl _ _).alloc (Nat.le_refl _) _
  have HF2 : Hid (BoxF W2 w2.heap.size 0 0) := hW2 ▸ BoxF.new w2 0 0
  have HN2 : Hid (Mx W2 m B V T MF rsF [] 4) := HM2.out.below HB2.out
  have HQ2 : Hid (BoxR W2 w.heap.size false) := (HR1.out.keeps HK2.out (show ¬ w.heap.size = m by omega)).below HB2.out
  have hs2 : W2.heap.size = w2.heap.size + 1 := by rw [← hW2]; simp
  rw [hW2]
  clear hW2 HM2 HR1
  refine (HT2.out _ HN2.out).mono ?_
  rintro e w3 ⟨rfl, HM3, HK3⟩
  clear HT2 HN2
  have hz3 := HK3.out.size
  go_wp2_with fail
  obtain ⟨W3, hW3⟩ : ∃ W3, w3.alloc (Obj.cells #[.int .i64 44, .int .u64 12304] 27) = W3 := ⟨_, rfl⟩
  have HB3 : Hid (Below w3.heap.size w3 W3) := hW3 ▸ (Below.refl _ _).alloc (Nat.le_refl _) _
  have HG3 : Hid (BoxF W3 w3.heap.size 44 12304) := hW3 ▸ BoxF.new w3 44 12304
  have HN3 : Hid (Mx W3 m B V T MF rsF [] 5) := HM3.out.below HB3.out
  have HF3 : Hid (BoxF W3 w2.heap.size 0 0) := (HF2.out.keeps HK3.out (show ¬ w2.heap.size = m by omega)).below HB3.out
  have HQ3 : Hid (BoxR W3 w.heap.size false) := (HQ2.out.keeps HK3.out (show ¬ w.heap.size = m by omega)).below HB3.out
  have hs3 : W3.heap.size = w3.heap.size + 1 := by rw [← hW3]; simp
  rw [hW3]
  clear hW3 HM3 HF2 HQ2
  refine (HL3.out _ HN3.out).mono ?_
  rintro e w4 ⟨rfl, HM4, HK4⟩
  clear HL3 HN3
  have hz4 := HK4.out.size
  go_wp2_with fail
  obtain ⟨W4, hW4⟩ : ∃ W4, w4.alloc (Obj.cells #[.int .i64 41, .int .u64 16384] 27) = W4 := ⟨_, rfl⟩
  have HB4 : Hid (Below w4.heap.size w4 W4) := hW4 ▸ (Below.refl _ _).alloc (Nat.le_refl _) _
  have HH4 : Hid (BoxF W4 w4.heap.size 41 16384) := hW4 ▸ BoxF.new w4 41 16384
  have HN4 : Hid (Mx W4 m B V T MF rsF [] 37) := HM4.out.below HB4.out
  have HF4 : Hid (BoxF W4 w2.heap.size 0 0) := (HF3.out.keeps HK4.out (show ¬ w2.heap.size = m by omega)).below HB4.out
  have HG4 : Hid (BoxF W4 w3.heap.size 44 12304) := (HG3.out.keeps HK4.out (show ¬ w3.heap.size = m by omega)).below HB4.out
  have HQ4 : Hid (BoxR W4 w.heap.size false) := (HQ3.out.keeps HK4.out (show ¬ w.heap.size = m by omega)).below HB4.out
  have hs4 : W4.heap.size = w4.heap.size + 1 := by rw [← hW4]; simp
  rw [hW4]
  clear hW4 HM4 HF3 HG3 HQ3
  refine (HS4.out _ HN4.out).mono ?_
  rintro e w5 ⟨rfl, T', HM5, HGr, HK5⟩
  clear HS4 HN4
  have hz5 := HK5.out.size
  have HNo : Hid (∀ j, w1.heap.size ≤ j → ¬ (j = m ∨ Foot B T j)) := fun j hj h => by
    have := HMi.out j (h.elim .inl (fun h => .inr (.inl h)))
    omega
  have HF5 : Hid (BoxF w5 w2.heap.size 0 0) := HF4.out.keeps HK5.out (HNo.out _ (by omega))
  have HG5 : Hid (BoxF w5 w3.heap.size 44 12304) := HG4.out.keeps HK5.out (HNo.out _ (by omega))
  have HH5 : Hid (BoxF w5 w4.heap.size 41 16384) := HH4.out.keeps HK5.out (HNo.out _ (by omega))
  have HnR : Hid (¬ (w.heap.size = m ∨ Foot B T w.heap.size)) := fun h => by
    have := HJ1.out _ (h.elim .inl (fun h => .inr (.inl h)))
    simp at this
    omega
  have HQ5 : Hid (BoxR w5 w.heap.size false) := HQ4.out.keeps HK5.out HnR.out
  clear HF4 HG4 HH4 HQ4
  have HO5 : Hid (∀ j, Mine m B V T' j → ¬ (j = w.heap.size ∨ j = w2.heap.size ∨ j = w3.heap.size ∨ j = w4.heap.size)) := fun j hj h => by
    have hlt : j < W4.heap.size := by omega
    have hj' : Mine m B V T j := hj.imp id (fun h => h.imp (fun h => HGr.out.foot h hlt) id)
    have h1 := HMi.out j hj'
    have h2 := HJ1.out j hj'
    simp at h2
    omega
  go_wp2_with fail
  obtain ⟨W5, hW5⟩ : ∃ W5, w5.alloc (Obj.cells #[.int .i64 0, .int .u64 0] 27) = W5 := ⟨_, rfl⟩
  have HB5 : Hid (Below w5.heap.size w5 W5) := hW5 ▸ (Below.refl _ _).alloc (Nat.le_refl _) _
  have HI5 : Hid (BoxF W5 w5.heap.size 0 0) := hW5 ▸ BoxF.new w5 0 0
  have hs5 : W5.heap.size = w5.heap.size + 1 := by rw [← hW5]; simp
  rw [hW5]
  clear hW5
  have HL6 : Hid (Calls Try.prog 7 #[.iface 22 (.pointer (some ⟨m, 0, none⟩)), .int .u64 4096, .int .u64 16380, .int .i64 4] W5 fun e w' => e = .returned (.tuple #[.int .u64 4278190080, .agg #[.int .i64 0, .int .u64 0]]) ∧ Hid (Mx w' m B V T' MG rsF [] 101) ∧ Hid (Keeps (fun j => j = m) W5 w')) := by
    refine (wload_any (t := 4096) (v := 16380) (k := 4) (HM5.out.below HB5.out) (by omega) (by omega) (.inr (.inr (.inl rfl)))).mono ?_
    rintro e w' ⟨rfl, h1, h2⟩
    rw [take_n]
    exact ⟨rfl, h1, h2⟩
  refine HL6.out.mono ?_
  rintro e w6 ⟨rfl, HM6, HK6⟩
  clear HL6
  have hz6 := HK6.out.size
  go_upto_region 11 with fail
  obtain ⟨W6, hW6⟩ : ∃ W6, w6.alloc (Obj.cells #[.int .i64 0, .int .u64 0] 27) = W6 := ⟨_, rfl⟩
  have HB6 : Hid (Below w6.heap.size w6 W6) := hW6 ▸ (Below.refl _ _).alloc (Nat.le_refl _) _
  have HJ6 : Hid (BoxF W6 w6.heap.size 0 0) := hW6 ▸ BoxF.new w6 0 0
  have hs6 : W6.heap.size = w6.heap.size + 1 := by rw [← hW6]; simp
  rw [hW6]
  clear hW6
  have HK56 : Hid (Keeps (fun j => j = m) w5 W6) := ((Keeps.of_below HB5.out).trans HK6.out (fun _ _ e => e)).trans (Keeps.of_below (S := fun _ => False) HB6.out) (fun _ _ h => h.elim)
  have HF6 : Hid (BoxF W6 w2.heap.size 0 0) := HF5.out.keeps HK56.out (show ¬ w2.heap.size = m by omega)
  have HG6 : Hid (BoxF W6 w3.heap.size 44 12304) := HG5.out.keeps HK56.out (show ¬ w3.heap.size = m by omega)
  have HH6 : Hid (BoxF W6 w4.heap.size 41 16384) := HH5.out.keeps HK56.out (show ¬ w4.heap.size = m by omega)
  have HQ6 : Hid (BoxR W6 w.heap.size false) := HQ5.out.keeps HK56.out (show ¬ w.heap.size = m by omega)
  have HI6 : Hid (BoxF W6 w5.heap.size 0 0) := (HI5.out.keeps HK6.out (show ¬ w5.heap.size = m by omega)).below HB6.out
  have HN6 : Hid (Mx W6 m B V T' MG rsF [] 101) := HM6.out.below HB6.out
  have HBw6 : Hid (Below w.heap.size w W6) := by
    have k1 := HBw1.out
    have k2 := k1.trans (HK2.out.below k1.size (fun i _ e => by omega))
    have k3 := k2.trans (HB2.out.mono k2.size)
    have k4 := k3.trans (HK3.out.below k3.size (fun i _ e => by omega))
    have k5 := k4.trans (HB3.out.mono k4.size)
    have k6 := k5.trans (HK4.out.below k5.size (fun i _ e => by omega))
    have k7 := k6.trans (HB4.out.mono k6.size)
    have k8 := k7.trans (HK5.out.below k7.size (fun i _ e => by
      have := HJ1.out i (e.elim .inl (fun h => .inr (.inl h)))
      simp at this
      omega))
    have k9 := k8.trans (HB5.out.mono k8.size)
    have k10 := k9.trans (HK6.out.below k9.size (fun i _ e => by omega))
    exact k10.trans (HB6.out.mono k10.size)
  clear HF5 HG5 HH5 HQ5 HI5 HM5 HM6
  obtain ⟨a0, a1, _, _⟩ := HF6.out.cells
  obtain ⟨b0, b1, _, _⟩ := HG6.out.cells
  obtain ⟨c0, c1, _, _⟩ := HH6.out.cells
  obtain ⟨d0, d1, _, _⟩ := HI6.out.cells
  obtain ⟨e0, e1, _, _⟩ := HJ6.out.cells
  have hnq := nqlF
  have hgq : ∀ W x y a b c d, (eqGuard .neq 27 x y (.agg #[.int .i64 a, .int .u64 b]) (.agg #[.int .i64 c, .int .u64 d])).run Try.prog W = .ok () W := fun W x y a b c d => run_eqGuard_agg W _ _ _ _ _ _ guardF
  go_upto_region 13 with fail
  clear a0 a1 b0 b1 c0 c1 d0 d1 e0 e1
  have hbf : w2.heap.size < W6.heap.size := HF6.out.lt
  have hbg : w3.heap.size < W6.heap.size := HG6.out.lt
  have hbh : w4.heap.size < W6.heap.size := HH6.out.lt
  have HTn : Hid (∀ W, Calls Try.prog 6 #[.nilIface, .int .u64 4096, .int .u64 5, .int .i64 1] W fun e w' => e = .returned (.tuple #[.int .u64 0, .agg #[.int .i64 1, .int .u64 5]]) ∧ Below W.heap.size W w') := fun W => translate_nil 4096 5 1 W
  have HLn : Hid (∀ W, Calls Try.prog 7 #[.nilIface, .int .u64 4096, .int .u64 6, .int .i64 9] W fun e w' => e = .returned (.tuple #[.int .u64 0, .agg #[.int .i64 1, .int .u64 6]]) ∧ Below W.heap.size W w') := fun W => load_nil 4096 6 9 W
  have HSn : Hid (∀ W, Calls Try.prog 8 #[.nilIface, .int .u64 0, .int .u64 7, .int .i64 1, .int .u64 0] W fun e w' => e = .returned (.agg #[.int .i64 1, .int .u64 7]) ∧ Below W.heap.size W w') := fun W => store_nil 0 7 1 0 W
  go_wp2_with fail
  refine (HTn.out _).mono ?_
  rintro e w7 ⟨rfl, hb7⟩
  have HB7 := Lib.hid hb7
  clear hb7 HTn
  obtain ⟨a0, a1, a2, a3⟩ := (HF6.out.below HB7.out).cells
  go_upto_region 14 with fail
  obtain ⟨W7, hW7⟩ : ∃ W7, (w7.setCell ⟨w2.heap.size, 0, none⟩ (.int .i64 1)).setCell ⟨w2.heap.size, 1, none⟩ (.int .u64 5) = W7 := ⟨_, rfl⟩
  have HF7 : Hid (BoxF W7 w2.heap.size 1 5) := hW7 ▸ (HF6.out.below HB7.out).set 1 5
  have HK7 : Hid (Keeps (fun j => j = w2.heap.size) W6 W7) := hW7 ▸ (Keeps.of_below HB7.out).trans (Keeps.two w7 w2.heap.size (.int .i64 1) (.int .u64 5)) (fun _ _ e => e)
  rw [hW7]
  clear hW7 a0 a1 a2 a3
  have HG7 : Hid (BoxF W7 w3.heap.size 44 12304) := HG6.out.keeps HK7.out (show ¬ w3.heap.size = w2.heap.size by omega)
  have HH7 : Hid (BoxF W7 w4.heap.size 41 16384) := HH6.out.keeps HK7.out (show ¬ w4.heap.size = w2.heap.size by omega)
  go_wp2_with fail
  refine (HLn.out _).mono ?_
  rintro e w8 ⟨rfl, hb8⟩
  have HB8 := Lib.hid hb8
  clear hb8 HLn
  obtain ⟨a0, a1, a2, a3⟩ := (HG7.out.below HB8.out).cells
  go_upto_region 15 with fail
  obtain ⟨W8, hW8⟩ : ∃ W8, (w8.setCell ⟨w3.heap.size, 0, none⟩ (.int .i64 1)).setCell ⟨w3.heap.size, 1, none⟩ (.int .u64 6) = W8 := ⟨_, rfl⟩
  have HG8 : Hid (BoxF W8 w3.heap.size 1 6) := hW8 ▸ (HG7.out.below HB8.out).set 1 6
  have HK8 : Hid (Keeps (fun j => j = w3.heap.size) W7 W8) := hW8 ▸ (Keeps.of_below HB8.out).trans (Keeps.two w8 w3.heap.size (.int .i64 1) (.int .u64 6)) (fun _ _ e => e)
  rw [hW8]
  clear hW8 a0 a1 a2 a3
  have HF8 : Hid (BoxF W8 w2.heap.size 1 5) := HF7.out.keeps HK8.out (show ¬ w2.heap.size = w3.heap.size by omega)
  have HH8 : Hid (BoxF W8 w4.heap.size 41 16384) := HH7.out.keeps HK8.out (show ¬ w4.heap.size = w3.heap.size by omega)
  go_wp2_with fail
  refine (HSn.out _).mono ?_
  rintro e w9 ⟨rfl, hb9⟩
  have HB9 := Lib.hid hb9
  clear hb9 HSn
  obtain ⟨a0, a1, a2, a3⟩ := (HH8.out.below HB9.out).cells
  go_upto_region 16 with fail
  obtain ⟨W9, hW9⟩ : ∃ W9, (w9.setCell ⟨w4.heap.size, 0, none⟩ (.int .i64 1)).setCell ⟨w4.heap.size, 1, none⟩ (.int .u64 7) = W9 := ⟨_, rfl⟩
  have HH9 : Hid (BoxF W9 w4.heap.size 1 7) := hW9 ▸ (HH8.out.below HB9.out).set 1 7
  have HK9 : Hid (Keeps (fun j => j = w4.heap.size) W8 W9) := hW9 ▸ (Keeps.of_below HB9.out).trans (Keeps.two w9 w4.heap.size (.int .i64 1) (.int .u64 7)) (fun _ _ e => e)
  rw [hW9]
  clear hW9 a0 a1 a2 a3
  have HF9 : Hid (BoxF W9 w2.heap.size 1 5) := HF8.out.keeps HK9.out (show ¬ w2.heap.size = w4.heap.size by omega)
  have HG9 : Hid (BoxF W9 w3.heap.size 1 6) := HG8.out.keeps HK9.out (show ¬ w3.heap.size = w4.heap.size by omega)
  have HK69 : Hid (Keeps (fun j => j = w2.heap.size ∨ j = w3.heap.size ∨ j = w4.heap.size) W6 W9) := ((HK7.out.mono (S' := fun j => j = w2.heap.size ∨ j = w3.heap.size ∨ j = w4.heap.size) (fun _ _ e => .inl e)).trans HK8.out (fun _ _ e => .inr (.inl e))).trans HK9.out (fun _ _ e => .inr (.inr e))
  have HQ9 : Hid (BoxR W9 w.heap.size false) := HQ6.out.keeps HK69.out (by omega)
  have HN9 : Hid (Mx W9 m B V T' MG rsF [] 101) := HN6.out.keeps HK69.out (fun j hj h => HO5.out j hj (.inr h))
  have HBw9 : Hid (Below w.heap.size w W9) := HBw6.out.trans (HK69.out.below HBw6.out.size (fun i _ e => by omega))
  have hs9 := HK69.out.size
  clear HF6 HG6 HH6 HQ6 HF7 HG7 HH7 HF8 HG8 HH8 HI6 HJ6 HN6 HBw6
  have HVn : Hid (∀ W, Calls Try.prog 9 #[.nilIface, .int .u64 4096, .int .i64 9] W _) := fun W => leaves_call .nilIface (.inl rfl) 4096 9 W
  have HVm : Hid (∀ W, Calls Try.prog 9 #[.iface 22 (.pointer (some ⟨m, 0, none⟩)), .int .u64 4096, .int .i64 3] W _) := fun W => leaves_call (.iface 22 (.pointer (some ⟨m, 0, none⟩))) (.inr ⟨_, _, rfl⟩) 4096 3 W
  go_wp2_with fail
  refine (HVn.out _).mono ?_
  rintro e w10 ⟨rfl, h10a, h10b, h10c, h10d, h10e⟩
  have HA10 := Lib.hid h10a
  have HB10 := Lib.hid h10e
  have HS10 := Lib.hid h10d
  clear h10a h10b h10c h10d h10e HVn
  go_wp2_with fail
  refine (HVm.out _).mono ?_
  rintro e w11 ⟨rfl, h11a, h11b, h11c, h11d, h11e⟩
  have HA11 := Lib.hid h11a
  have HO11 := Lib.hid h11b
  have HR11 := Lib.hid h11c
  have HB11 := Lib.hid h11e
  have HS11 := Lib.hid h11d
  clear h11a h11b h11c h11d h11e HVm
  have hnf := eql_seq_nil
  go_wp2_with fail
  have HBw10 : Hid (Below w.heap.size w w10) := HBw9.out.trans (HB10.out.mono HBw9.out.size)
  have HBw11 : Hid (Below w.heap.size w w11) := HBw10.out.trans (HB11.out.mono HBw10.out.size)
  have HK911 : Hid (Below W9.heap.size W9 w11) := HB10.out.trans (HB11.out.mono HB10.out.size)
  have hs11 : W9.heap.size + 6 = w11.heap.size := by have := HS10.out; have := HS11.out; omega
  have HSS := Lib.hid hs11
  clear hs11
  refine (wpIn_wide (n := 20)).1 ?_
  refine range_out (F := Fence.wide) rfl (by decide) (gf := 19) (lb := #[.pointer (some ⟨W9.heap.size, 0, none⟩), .pointer (some ⟨W9.heap.size + 2, 0, none⟩), .pointer (some ⟨W9.heap.size + 1, 0, none⟩)]) rfl trivial (enters_of Try.func19 (by kernel_rfl) rfl)
    (fun V => Below w11.heap.size w11 V ∧ V.heap[w11.heap.size]? = some (.deferred (some []))) (fun _ _ => False) ?it1 ?fin1 ?stop1
  case stop1 => exact fun c V h => h.elim
  case it1 =>
    intro W1 r1 _ _ _ _ _ hW1
    have hB1 : Below w11.heap.size w11 W1 := hW1 ▸ (((Below.refl _ w11).alloc (Nat.le_refl _) _).alloc (by simp) _)
    have hr1 : RecAt W1 (w11.heap.size + 1) r1 .ready none := by
      have := World.alloc_heap_new (w11.alloc (.deferred (some []))) (.loop (recS r1 .ready none))
      rw [World.size_alloc, ← hW1] at this
      exact this
    have hd1 : W1.heap[w11.heap.size]? = some (.deferred (some [])) := by
      rw [hW1, Below.heap_alloc _ _ _ (by simp)]
      exact World.alloc_heap_new _ _
    clear hW1
    have hA : W1.cell? ⟨W9.heap.size, 0, none⟩ = some .nilIface := (hB1.cell (p := ⟨W9.heap.size, 0, none⟩) (by have := HSS.out; show W9.heap.size < _; omega)).trans ((HB11.out.cell (p := ⟨W9.heap.size, 0, none⟩) (by have := HS10.out; show W9.heap.size < _; omega)).trans HA10.out)
    refine (leaves1_nil (n := 20 - 1) (l0 := w11.heap.size + 1) hA).mono ?_
    rintro e W' ⟨he, hb⟩
    have hz := hr1.lt
    refine ⟨he, .inl ⟨(hb.block _ hr1.lt).trans hr1, (hB1.trans (hb.mono hB1.size)).trans ((Keeps.putObj W' _ _).below (Nat.le_trans hB1.size hb.size) (fun i _ e => by omega)), ?_⟩⟩
    rw [World.putObj_heap_other (by omega), hb.block _ (by omega)]
    exact hd1
  case fin1 =>
  rintro V12 ⟨hb12, hd12⟩
  have HB12 := Lib.hid hb12
  have HD12 := Lib.hid hd12
  clear hb12 hd12
  go_wp2_with fail
  obtain ⟨W13, hW13⟩ : ∃ W13, V12.alloc (Obj.cells #[.int .i64 0] 3) = W13 := ⟨_, rfl⟩
  have HT13 : Hid (IntAt W13 V12.heap.size 0) := hW13 ▸ World.alloc_heap_new V12 _
  have HB13 : Hid (Below w11.heap.size w11 W13) := hW13 ▸ HB12.out.alloc HB12.out.size _
  have HD13 : Hid (W13.heap[w11.heap.size]? = some (.deferred (some []))) := by
    show _ = _
    rw [← hW13, Below.heap_alloc _ _ _ (Array.getElem?_eq_some_iff.1 HD12.out).1]
    exact HD12.out
  have hs13 : W13.heap.size = V12.heap.size + 1 := by rw [← hW13]; simp
  have hv12 : w11.heap.size < V12.heap.size := (Array.getElem?_eq_some_iff.1 HD12.out).1
  have HS13 := Lib.hid hs13
  rw [hW13]
  clear hW13 hs13
  have HB9d : Hid (Below W9.heap.size W9 W13) := HK911.out.trans (HB13.out.mono HK911.out.size)
  have HN13 : Hid (Mx W13 m B V T' MG rsF [] 101) := HN9.out.below HB9d.out
  have HQ13 : Hid (BoxR W13 w.heap.size false) := HQ9.out.below HB9d.out
  have HF13 : Hid (BoxF W13 w2.heap.size 1 5) := HF9.out.below HB9d.out
  have HG13 : Hid (BoxF W13 w3.heap.size 1 6) := HG9.out.below HB9d.out
  have HH13 : Hid (BoxF W13 w4.heap.size 1 7) := HH9.out.below HB9d.out
  have HBw13 : Hid (Below w.heap.size w W13) := HBw9.out.trans (HB9d.out.mono HBw9.out.size)
  have HMi9 : Hid (∀ j, Mine m B V T' j → j < W9.heap.size) := fun j hj => HN9.out.mine_lt hj
  clear HN9 HQ9 HF9 HG9 HH9
  have HAr : Hid (w.heap.size < m ∧ m < W9.heap.size ∧ w2.heap.size < W9.heap.size ∧ w3.heap.size < W9.heap.size ∧ w4.heap.size < W9.heap.size ∧ w1.heap.size ≤ w2.heap.size ∧ w2.heap.size < w3.heap.size ∧ w3.heap.size < w4.heap.size ∧ m < w1.heap.size ∧ W9.heap.size + 6 = w11.heap.size ∧ w10.heap.size = W9.heap.size + 3 ∧ w11.heap.size < V12.heap.size ∧ W13.heap.size = V12.heap.size + 1) := by
    show _ ∧ _
    have := HSS.out
    have := HS10.out
    have := HS13.out
    omega
  clear hv12 hs9 hs6 hs5 hs4 hs3 hs2 hz6 hz5 hz4 hz3 hz2 hbf hbg hbh hlm
  refine (wpIn_wide (n := 20)).1 ?_
  refine range_out (F := Fence.wide) rfl (by decide) (gf := 19) (lb := #[.pointer (some ⟨w10.heap.size, 0, none⟩), .pointer (some ⟨w10.heap.size + 2, 0, none⟩), .pointer (some ⟨w10.heap.size + 1, 0, none⟩)]) rfl trivial (enters_of Try.func19 (by kernel_rfl) rfl)
    (fun V => IntAt V V12.heap.size 1 ∧ Keeps (fun k => k = m ∨ k = V12.heap.size ∨ k = w.heap.size) W13 V ∧ BoxR V w.heap.size false ∧ V.heap[W13.heap.size]? = some (.deferred (some []))) (fun _ _ => False) ?it2 ?fin2 ?stop2
  case stop2 => exact fun c V h => h.elim
  case it2 =>
    intro W14 r _ hrt hrp hra hrb hW14
    obtain ⟨l0, hl0⟩ : ∃ l, l = W13.heap.size + 1 := ⟨_, rfl⟩
    have HRc : Hid (RecAt W14 l0 r .ready none) := by
      have := World.alloc_heap_new (W13.alloc (.deferred (some []))) (.loop (recS r .ready none))
      rw [World.size_alloc, ← hW14, ← hl0] at this
      exact this
    have HDf : Hid (W14.heap[W13.heap.size]? = some (.deferred (some []))) := by
      show _ = _
      rw [hW14, Below.heap_alloc _ _ _ (by simp)]
      exact World.alloc_heap_new _ _
    have HB14 : Hid (Below W13.heap.size W13 W14) := hW14 ▸ (((Below.refl _ W13).alloc (Nat.le_refl _) _).alloc (by simp) _)
    clear hW14
    have HA4 : Hid (W13.heap.size ≤ l0 ∧ l0 < W14.heap.size ∧ l0 = W13.heap.size + 1) := ⟨by omega, HRc.out.lt, hl0⟩
    rw [← hl0]
    clear hl0
    have HMj : Hid (∀ j, Mine m B V T' j → j < W14.heap.size ∧ j ≠ V12.heap.size ∧ j ≠ l0 ∧ j ≠ w.heap.size) := fun j hj => by
      have h1 := HMi9.out j hj
      have h2 := HO5.out j hj
      have := HAr.out
      have := HA4.out
      omega
    have E : LvEnv lkN ydN ctN (fun s => s.2.2 = true) (fun s => s.1) 134480384 (fun s W => s.2.2 = true → NmI m B V T' 101 l0 r V12.heap.size s W ∧ BoxR W w.heap.size false) (fun k => k = m ∨ k = V12.heap.size ∨ k = l0 ∨ k = w.heap.size) W14.heap.size l0 22 (.pointer (some ⟨m, 0, none⟩)) := by
      refine ⟨⟨fun s a b c h => h, fun s x _ h => h⟩, ?_, ?_, ?_, fun s fr i lev => look_frm _ _ _ _, ?_, fun s a b c => Nat.le_refl _, fun s x => Nat.le_refl _⟩
      · intro s A B' h hb hs
        obtain ⟨h1, h2⟩ := h hs
        have hk : Keeps (fun k => W14.heap.size ≤ k) A B' := ⟨hb.os, hb.tape, hb.output, hb.size, fun i hi hn => hb.block i (by omega)⟩
        have ha := HAr.out
        have ha4 := HA4.out
        exact ⟨⟨h1.mac.keeps hk (fun j hj => by have := (HMj.out j hj).1; omega), (hb.block l0 (by omega)).trans h1.record, h1.told.keeps hk (by omega)⟩, h2.keeps hk (by omega)⟩
      · intro k hk
        have ha := HAr.out
        have ha4 := HA4.out
        omega
      · intro s W fr i lev hlev hi hfr hc hs hN hI
        obtain ⟨h1, h2⟩ := hI hs
        have ha := HAr.out
        have ha4 := HA4.out
        refine (lookx_any (t := fr) (k := i) (l := (lev : Int)) h1.mac (by omega) (by have : s.1 < 134480384 := hc; omega)).mono ?_
        rintro e w' ⟨rfl, hm', hk'⟩
        refine ⟨rfl, fun _ => ⟨⟨?_, (hk'.block l0 h1.record.lt (show ¬ l0 = m by omega)).trans h1.record, h1.told.keeps hk' (show ¬ V12.heap.size = m by omega)⟩, h2.keeps hk' (show ¬ w.heap.size = m by omega)⟩, hk'.mono (fun _ _ e => .inl e)⟩
        show Mx w' m B V T' MG rsF [] (101 + (s.1 + 1))
        rw [← Nat.add_assoc]
        exact hm'
      · intro n s W x hx1 hx2 hx3 hs hN hI
        obtain ⟨v, lv, ⟨f0, b1, b2, b3, b4⟩, wy⟩ := x
        obtain ⟨h1, h2⟩ := hI hs
        refine yield_of (F := Fence.wide) h1.record (by rw [hrp]; rfl) trivial ?_
        rw [hra, hrt, hrp]
        have HI1 := Lib.hid h1
        have HI2 := Lib.hid h2
        clear h1 h2 hI
        dsimp only [LfV]
        obtain ⟨p, hp⟩ : ∃ p, p = pgs lv := ⟨_, rfl⟩
        have HP := Lib.hid hp
        rw [← hp]
        clear hp
        gi_wp2
        refine ⟨(Below.heap_alloc W _ _ HI1.out.record.lt).trans HI1.out.record, ?_⟩
        intro hbusy
        obtain ⟨Vb, hVb⟩ : ∃ Vb, (W.alloc (Obj.cells #[.int .u64 (v : Int), .int .u64 (f0 : Int), .int .i64 (p : Int), .bool b2, .bool b3, .bool b4] 35)).putObj l0 (.loop (recS r .busy none)) = Vb := ⟨_, rfl⟩
        have hlw := HI1.out.record.lt
        have HKb : Hid (Keeps (fun k => k = l0) W Vb) := hVb ▸ (Keeps.alloc (S := fun k => k = l0) W _).trans (Keeps.putObj _ l0 _) (fun _ _ e => e)
        have HLb : Hid (BoxL Vb W.heap.size v f0 (p : Int) b2 b3 b4) := by
          show BoxL _ _ _ _ _ _ _ _
          rw [← hVb]
          show (World.putObj _ _ _).heap[_]? = _
          rw [World.putObj_heap_other (by omega)]
          exact World.alloc_heap_new W _
        rw [hVb] at hbusy ⊢
        clear hVb
        have HBu := Lib.hid hbusy
        clear hbusy
        have HA5 : Hid (w.heap.size < V12.heap.size ∧ V12.heap.size < l0 ∧ w.heap.size < m ∧ m < V12.heap.size) := by
          show _ ∧ _
          have := HAr.out
          have := HA4.out
          omega
        have HTb : Hid (IntAt Vb V12.heap.size s.2.1) := HI1.out.told.keeps HKb.out (by have := HA5.out; omega)
        have HRb : Hid (BoxR Vb w.heap.size false) := HI2.out.keeps HKb.out (by have := HA5.out; omega)
        have HMb : Hid (Mx Vb m B V T' MG rsF [] (101 + s.1)) := HI1.out.mac.keeps HKb.out (fun j hj e => (HMj.out j hj).2.2.1 e)
        obtain ⟨y0, y1, y2, y3, y4, y5⟩ := HLb.out.cells
        have t0 := HTb.out.cell
        have t1 := HTb.out.frozen
        obtain ⟨q0, q1⟩ := HRb.out.cell
        have hgl : ∀ W x y a b c d e f a' b' c' d' e' f', (eqGuard .neq 35 x y (.agg #[.int .u64 a, .int .u64 b, .int .i64 c, .bool d, .bool e, .bool f]) (.agg #[.int .u64 a', .int .u64 b', .int .i64 c', .bool d', .bool e', .bool f'])).run Try.prog W = .ok () W := fun W x y a b c d e f a' b' c' d' e' f' => run_eqGuard_agg W _ _ _ _ _ _ guardL
        have hq := fun W => nqlL W (v : Int) (f0 : Int) (p : Int) b2 b3 b4 12288 20480 1 false true false
        have HBad : Hid (okN (v, lv, (f0, b1, b2, b3, b4), wy) = false → ∀ V', Keeps (fun k => k = w.heap.size) Vb V' → RecAt V' l0 r .busy none ∧ ((.returned (.bool false) : Ending) = .returned (.bool (ctN s (v, lv, (f0, b1, b2, b3, b4), wy))) ∧ ((ydN s (v, lv, (f0, b1, b2, b3, b4), wy)).2.2 = true → NmI m B V T' 101 l0 r V12.heap.size (ydN s (v, lv, (f0, b1, b2, b3, b4), wy)) (V'.putObj l0 (.loop (recS r .done (some .ret)))) ∧ BoxR (V'.putObj l0 (.loop (recS r .done (some .ret)))) w.heap.size false) ∧ Keeps (fun k => k = m ∨ k = V12.heap.size ∨ k = l0 ∨ k = w.heap.size) W (V'.putObj l0 (.loop (recS r .done (some .ret)))))) := fun hok V' hk => by
          have ha5 := HA5.out
          refine ⟨(hk.block l0 HBu.out.lt (by omega)).trans HBu.out, ?_, fun e => ?_, ?_⟩
          · show _ = Ending.returned (.bool (okN _))
            rw [hok]
          · have e' : okN (v, lv, (f0, b1, b2, b3, b4), wy) = true := e
            rw [hok] at e'
            cases e'
          · exact ((HKb.out.mono (S' := (fun k => k = m ∨ k = V12.heap.size ∨ k = l0 ∨ k = w.heap.size)) (fun _ _ e => .inr (.inr (.inl e)))).trans hk (fun _ _ e => .inr (.inr (.inr e)))).trans (Keeps.putObj _ l0 _) (fun _ _ e => .inr (.inr (.inl e)))
        have HGood : Hid (okN (v, lv, (f0, b1, b2, b3, b4), wy) = true → RecAt (Vb.setCell ⟨V12.heap.size, 0, none⟩ (.int .i64 (wrap64 (s.2.1 + 1)))) l0 r .busy none ∧ ((.returned (.bool true) : Ending) = .returned (.bool (ctN s (v, lv, (f0, b1, b2, b3, b4), wy))) ∧ ((ydN s (v, lv, (f0, b1, b2, b3, b4), wy)).2.2 = true → NmI m B V T' 101 l0 r V12.heap.size (ydN s (v, lv, (f0, b1, b2, b3, b4), wy)) ((Vb.setCell ⟨V12.heap.size, 0, none⟩ (.int .i64 (wrap64 (s.2.1 + 1)))).putObj l0 (.loop (recS r .ready none))) ∧ BoxR ((Vb.setCell ⟨V12.heap.size, 0, none⟩ (.int .i64 (wrap64 (s.2.1 + 1)))).putObj l0 (.loop (recS r .ready none))) w.heap.size false) ∧ Keeps (fun k => k = m ∨ k = V12.heap.size ∨ k = l0 ∨ k = w.heap.size) W ((Vb.setCell ⟨V12.heap.size, 0, none⟩ (.int .i64 (wrap64 (s.2.1 + 1)))).putObj l0 (.loop (recS r .ready none))))) := fun hok => by
          have ha5 := HA5.out
          have hk := Keeps.setCell Vb V12.heap.size 0 (.int .i64 (wrap64 (s.2.1 + 1)))
          have hrb : RecAt (Vb.setCell ⟨V12.heap.size, 0, none⟩ (.int .i64 (wrap64 (s.2.1 + 1)))) l0 r .busy none := (hk.block l0 HBu.out.lt (by omega)).trans HBu.out
          refine ⟨hrb, ?_, fun _ => ⟨⟨?_, World.putObj_heap_same hrb.lt, (HTb.out.set (wrap64 (s.2.1 + 1))).keeps (Keeps.putObj _ l0 _) (by omega)⟩, (HRb.out.keeps hk (by omega)).keeps (Keeps.putObj _ l0 _) (by omega)⟩, ?_⟩
          · show _ = Ending.returned (.bool (okN _))
            rw [hok]
          · exact (HMb.out.keeps hk (fun j hj e => (HMj.out j hj).2.1 e)).keeps (Keeps.putObj _ l0 _) (fun j hj e => (HMj.out j hj).2.2.1 e)
          · exact ((HKb.out.mono (S' := (fun k => k = m ∨ k = V12.heap.size ∨ k = l0 ∨ k = w.heap.size)) (fun _ _ e => .inr (.inr (.inl e)))).trans hk (fun _ _ e => .inr (.inl e))).trans (Keeps.putObj _ l0 _) (fun _ _ e => .inr (.inr (.inl e)))
        have HOk : Hid (okN (v, lv, (f0, b1, b2, b3, b4), wy) = decide (v = 12288 ∧ f0 = 20480 ∧ p = 1 ∧ (b2, b3, b4) = (false, true, false) ∧ wy = 0)) := by
          show _ = _
          rw [HP.out]
          rfl
        clear HLb HTb HRb HMb HKb HBu HI1 HI2
        by_cases hL : v = 12288 ∧ f0 = 20480 ∧ p = 1 ∧ b2 = false ∧ b3 = true ∧ b4 = false
        · obtain ⟨rfl, rfl, rfl, rfl, rfl, rfl⟩ := hL
          by_cases hw : wy = 0
          · subst hw
            have hok := HOk.out.trans (by decide : _ = true)
            have HG2 := Lib.hid (HGood.out hok)
            clear HGood HBad HOk hok
            gi_wp2
            exact HG2.out
          · have hok := HOk.out.trans (decide_eq_false (fun h => hw h.2.2.2.2))
            have HG2 := Lib.hid (HBad.out hok)
            have hw2 : (wy == 0) = false := by simpa using hw
            clear HGood HBad HOk hok
            gi_wp2
            exact HG2.out _ (Keeps.setCell Vb w.heap.size 0 (.bool false))
        · have hok := HOk.out.trans (decide_eq_false (fun h => hL ⟨h.1, h.2.1, h.2.2.1, by have := h.2.2.2.1; simp only [Prod.mk.injEq] at this; exact this⟩))
          have HG2 := Lib.hid (HBad.out hok)
          have hq2 : ((v : Int) == 12288 && (f0 : Int) == 20480 && (p : Int) == 1 && b2 == false && b3 == true && b4 == false) = false := by
            rw [Bool.eq_false_iff]
            intro h
            simp only [Bool.and_eq_true, beq_iff_eq] at h
            exact hL ⟨by omega, by omega, by omega, h.1.1.2, h.1.2, h.2⟩
          have hq3 := fun W => (hq W).trans (by rw [hq2]; rfl : _ = Result.ok (Value.bool true) W)
          clear HGood HBad HOk hok hq hq2
          gi_wp2
          exact HG2.out _ (Keeps.setCell Vb w.heap.size 0 (.bool false))
    have ha := HAr.out
    have ha4 := HA4.out
    have hbm : W14.cell? ⟨w10.heap.size, 0, none⟩ = some (.iface 22 (.pointer (some ⟨m, 0, none⟩))) := (HB14.out.cell (p := ⟨w10.heap.size, 0, none⟩) (by show w10.heap.size < _; omega)).trans ((HB13.out.cell (p := ⟨w10.heap.size, 0, none⟩) (by show w10.heap.size < _; omega)).trans HA11.out)
    have hbo : W14.cell? ⟨w10.heap.size + 2, 0, none⟩ = some (.int .i64 3) := (HB14.out.cell (p := ⟨w10.heap.size + 2, 0, none⟩) (by show w10.heap.size + 2 < _; omega)).trans ((HB13.out.cell (p := ⟨w10.heap.size + 2, 0, none⟩) (by show w10.heap.size + 2 < _; omega)).trans HO11.out)
    have hbr : W14.cell? ⟨w10.heap.size + 1, 0, none⟩ = some (.int .u64 4096) := (HB14.out.cell (p := ⟨w10.heap.size + 1, 0, none⟩) (by show w10.heap.size + 1 < _; omega)).trans ((HB13.out.cell (p := ⟨w10.heap.size + 1, 0, none⟩) (by show w10.heap.size + 1 < _; omega)).trans HR11.out)
    refine (leaves1_any E (n := 20 - 1) (root := 4096) (most := 3) (s0 := (0, 0, true)) (by decide) rfl hbm (by omega) hbo hbr (by decide) (by decide) (by decide) (by decide) (by decide) rfl ?_).mono ?_
    · intro _
      exact ⟨⟨HN13.out.below HB14.out, HRc.out, HT13.out.below HB14.out⟩, HQ13.out.below HB14.out⟩
    · rintro e W' ⟨he, hI', hk'⟩
      rw [run1] at hI'
      obtain ⟨g1, g2⟩ := hI' rfl
      refine ⟨he, .inl ⟨g1.record, g1.told.keeps (Keeps.putObj _ l0 _) (by omega), ?_, g2.keeps (Keeps.putObj _ l0 _) (by omega), ?_⟩⟩
      · exact ((Keeps.of_below (S := fun k => k = m ∨ k = V12.heap.size ∨ k = w.heap.size) HB14.out).trans hk' (fun i hi h => by omega)).trans (Keeps.putObj _ l0 _) (fun i hi e => by omega)
      · rw [World.putObj_heap_other (by omega)]
        exact (hk'.block _ (by omega) (by omega)).trans HDf.out
  case fin2 =>
  rintro V14 ⟨ht14, hk14, hr14, hd14⟩
  have HT14 := Lib.hid ht14
  have HK14 := Lib.hid hk14
  have HR14 := Lib.hid hr14
  have HD14 := Lib.hid hd14
  have hn14 : ∀ k, k ≠ m → k ≠ V12.heap.size → k ≠ w.heap.size → ¬ (k = m ∨ k = V12.heap.size ∨ k = w.heap.size) := fun k h1 h2 h3 h => h.elim h1 (fun h => h.elim h2 h3)
  have HF14 : Hid (BoxF V14 w2.heap.size 1 5) := HF13.out.keeps HK14.out (by have := HAr.out; omega)
  have HG14 : Hid (BoxF V14 w3.heap.size 1 6) := HG13.out.keeps HK14.out (by have := HAr.out; omega)
  have HH14 : Hid (BoxF V14 w4.heap.size 1 7) := HH13.out.keeps HK14.out (by have := HAr.out; omega)
  have HE14 : Hid (V14.heap[w11.heap.size]? = some (.deferred (some []))) := (HK14.out.block _ (Array.getElem?_eq_some_iff.1 HD13.out).1 (by have := HAr.out; omega)).trans HD13.out
  have HBw14 : Hid (Below w.heap.size w V14) := HBw13.out.trans (HK14.out.below HBw13.out.size (fun i _ e => by have := HAr.out; omega))
  clear ht14 hk14 hr14 hd14 hn14
  have t0 := HT14.out.cell
  obtain ⟨q0, q1⟩ := HR14.out.cell
  obtain ⟨a0, a1, _, _⟩ := HF14.out.cells
  obtain ⟨b0, b1, _, _⟩ := HG14.out.cells
  obtain ⟨c0, c1, _, _⟩ := HH14.out.cells
  have hef := eqlF
  have hge : ∀ W x y a b c d, (eqGuard .eql 27 x y (.agg #[.int .i64 a, .int .u64 b]) (.agg #[.int .i64 c, .int .u64 d])).run Try.prog W = .ok () W := fun W x y a b c d => run_eqGuard_agg W _ _ _ _ _ _ guardF
  go_wp2_with fail
  obtain ⟨V15, hV15⟩ : ∃ V15, V14.setCell ⟨w.heap.size, 0, none⟩ (.bool true) = V15 := ⟨_, rfl⟩
  have hr15 : BoxR V15 w.heap.size true := hV15 ▸ HR14.out.set true
  have hk15 : Keeps (fun k => k = w.heap.size) V14 V15 := hV15 ▸ Keeps.setCell V14 w.heap.size 0 (.bool true)
  rw [hV15]
  clear hV15 t0 q0 q1 a0 a1 b0 b1 c0 c1 hef hge
  have har := HAr.out
  have hd15 : V15.heap[W13.heap.size]? = some (.deferred (some [])) := (hk15.block _ (Array.getElem?_eq_some_iff.1 HD14.out).1 (by omega)).trans HD14.out
  have he15 : (V15.putObj W13.heap.size (.deferred none)).heap[w11.heap.size]? = some (.deferred (some [])) := by
    rw [World.putObj_heap_other (by omega)]
    exact (hk15.block _ (Array.getElem?_eq_some_iff.1 HE14.out).1 (by omega)).trans HE14.out
  have hr16 : BoxR ((V15.putObj W13.heap.size (.deferred none)).putObj w11.heap.size (.deferred none)) w.heap.size true := (hr15.keeps (Keeps.putObj V15 W13.heap.size _) (by omega)).keeps (Keeps.putObj _ w11.heap.size _) (by omega)
  have hb16 : Below w.heap.size w ((V15.putObj W13.heap.size (.deferred none)).putObj w11.heap.size (.deferred none)) := by
    have k1 := HBw14.out.trans (hk15.below HBw14.out.size (fun i _ e => by omega))
    have k2 := k1.trans ((Keeps.putObj V15 W13.heap.size (.deferred none)).below k1.size (fun i _ e => by omega))
    exact k2.trans ((Keeps.putObj _ w11.heap.size (.deferred none)).below k2.size (fun i _ e => by omega))
  refine ⟨by simp, .inl ⟨_, _, rfl, run_takeDeferred hd15, ?_⟩⟩
  refine ⟨by simp, .inl ⟨_, _, rfl, run_takeDeferred he15, ?_⟩⟩
  have hc16 := hr16.cell.1
  exact ⟨.bool true, by simp [results, Try.results3, go_sem, hc16], rfl, hb16⟩
end Go.Proofs.Ytehedllcdpjebaa
