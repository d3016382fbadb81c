import Derived.Test.YtehedllcdpjebaaWkLook
import Derived.Test.YtehedllcdpjebaaPkC
import Derived.Deep.RegionHeld3
import Derived.Test.YtehedllcdpjebaaWkAddr
import Derived.Test.YtehedllcdpjebaaWkTr
import Derived.Test.YtehedllcdpjebaaWkReach
import Derived.Test.YtehedllcdpjebaaWkTake
import Derived.Test.YtehedllcdpjebaaWkStore
/- WalkEnds: a memory that answers what stands in a list. Own work. -/
namespace Go.Proofs.Ytehedllcdpjebaa
open Go.RowKit Go.Maps Go.Proofs.Ytehedllcdpjebaa.Sp Wk
/-- what it answers: the value, why, where -/
def nxO (xs : List Sp) (k : Nat) : Int × Int × Int := if h : k % xs.length < xs.length then ((xs[k % xs.length]).2, (xs[k % xs.length]).1 % 3, (xs[k % xs.length]).1) else (0, 0, 0)
/-- how far it has come -/
def upO (xs : List Sp) (k : Nat) : Nat := if xs = [] then k else k + 1
structure OdI (xs : List Sp) (sv : Value) (Ba : Nat) (k : Nat) (w : World) : Prop where
  row : U64.SV w sv xs
  fits : ∀ x ∈ xs, 0 ≤ x.1 ∧ x.1 ≤ 18446744073709551615 ∧ 0 ≤ x.2 ∧ x.2 ≤ 18446744073709551615
  count : IntAt w Ba (k : Int)
  apart : ∀ a n c, sv = .slice (some a) n c → a.block ≠ Ba
theorem OdI.lt {xs : List Sp} {sv : Value} {Ba k : Nat} {w : World} (h : OdI xs sv Ba k w) : Ba < w.heap.size := h.count.lt
theorem OdI.keeps {Z : Nat → Prop} {xs : List Sp} {sv : Value} {Ba k : Nat} {w w' : World} (h : OdI xs sv Ba k w) (hk : Keeps Z w w') (h1 : ¬ Z Ba) (h2 : ∀ a n c, sv = .slice (some a) n c → ¬ Z a.block) : OdI xs sv Ba k w' := by
  refine ⟨?_, h.fits, h.count.keeps hk h1, h.apart⟩
  obtain ⟨ao, cap, rfl, g1, g2, g3, g4, g5⟩ := h.row
  refine ⟨ao, cap, rfl, g1, g2, g3, fun a e => ?_, fun j hj => ?_⟩
  · obtain ⟨g, off, rfl, hg⟩ := g4 a e
    exact ⟨g, off, rfl, Nat.lt_of_lt_of_le hg hk.size⟩
  · obtain ⟨g, off, e, c0, c1⟩ := g5 j hj
    have hb := hk.block g (World.block_lt_of_cell? w _ c0) (h2 _ _ _ (by rw [e]))
    refine ⟨g, off, e, ?_, ?_⟩
    · unfold World.cell? at c0 ⊢; dsimp only at c0 ⊢; rw [hb]; exact c0
    · unfold World.cell? at c1 ⊢; dsimp only at c1 ⊢; rw [hb]; exact c1
theorem OdI.below {xs : List Sp} {sv : Value} {Ba k : Nat} {w w' : World} (h : OdI xs sv Ba k w) (hb : Below w.heap.size w w') : OdI xs sv Ba k w' := h.keeps (Keeps.of_below (S := fun _ => False) hb) (fun h => h) (fun _ _ _ _ h => h)
theorem OdI.set {xs : List Sp} {sv : Value} {Ba k : Nat} {w : World} (h : OdI xs sv Ba k w) (m : Nat) : OdI xs sv Ba m (w.setCell ⟨Ba, 0, none⟩ (.int .i64 (m : Int))) := by
  refine ⟨?_, h.fits, h.count.set _, h.apart⟩
  obtain ⟨ao, cap, rfl, g1, g2, g3, g4, g5⟩ := h.row
  refine ⟨ao, cap, rfl, g1, g2, g3, fun a e => ?_, fun j hj => ?_⟩
  · obtain ⟨g, off, rfl, hg⟩ := g4 a e
    exact ⟨g, off, rfl, by simpa using hg⟩
  · obtain ⟨g, off, e, c0, c1⟩ := g5 j hj
    have hne := h.apart _ _ _ (by rw [e])
    have hb := (Keeps.setCell w Ba 0 (.int .i64 (m : Int))).block g (World.block_lt_of_cell? w _ c0) hne
    refine ⟨g, off, e, ?_, ?_⟩
    · unfold World.cell? at c0 ⊢; dsimp only at c0 ⊢; rw [hb]; exact c0
    · unfold World.cell? at c1 ⊢; dsimp only at c1 ⊢; rw [hb]; exact c1
theorem Keeps.cellAt {Y : Nat → Prop} {w w' : World} {g i : Nat} {v : Value} (hk : Keeps Y w w') (h : w.cell? ⟨g, i, none⟩ = some v) (hn : ¬ Y g) : w'.cell? ⟨g, i, none⟩ = some v := by
  have hb := hk.block g (World.block_lt_of_cell? w _ h) hn
  unfold World.cell? at h ⊢
  dsimp only at h ⊢
  rw [hb]
  exact h
set_option maxRecDepth 100000 in
set_option maxHeartbeats 4000000 in
theorem next_any {xs : List Sp} {sv : Value} {Ba k : Nat} {w : World} (h : OdI xs sv Ba k w) (hk : k < 4611686018427387904) :
    Calls Try.prog 111 #[.agg #[sv, .pointer (some ⟨Ba, 0, none⟩)]] w fun e w' => e = .returned (.tuple #[.int .u64 (nxO xs k).1, .agg #[.int .i64 (nxO xs k).2.1, .int .u64 (nxO xs k).2.2]]) ∧ OdI xs sv Ba (upO xs k) w' ∧ Keeps (fun j => j = Ba) w w' := by
  have HI := Lib.hid h
  have hba := h.lt
  have HC := Lib.hid h.count
  obtain ⟨ao, cap, hsv, g1, g2, g3, g4, g5⟩ := h.row
  subst hsv
  have hlen : xs.length ≤ 9223372036854775807 := by unfold maxLen at g2; omega
  cases xs with
  | nil =>
    have e1 : nxO [] k = (0, 0, 0) := rfl
    have e2 : upO [] k = k := rfl
    rw [e1, e2]
    dsimp only [List.length_nil]
    clear g1 g2 g3 g4 g5 h
    go_enter Try.func111, Try.ntmps111
    go_wp2_with fail
    obtain ⟨W2, hW2⟩ : ∃ W2, (w.alloc (Obj.cells #[.slice ao 0 cap, .pointer (some ⟨Ba, 0, none⟩)] 41)).alloc (Obj.cells #[.int .i64 0, .int .u64 0] 27) = W2 := ⟨_, rfl⟩
    have hb2 : Below w.heap.size w W2 := hW2 ▸ ((Below.refl _ w).alloc (Nat.le_refl _) _).alloc (by simp) _
    have hf2 : BoxF W2 (w.heap.size + 1) 0 0 := by
      have := BoxF.new (w.alloc (Obj.cells #[.slice ao 0 cap, .pointer (some ⟨Ba, 0, none⟩)] 41)) 0 0
      rw [World.size_alloc, hW2] at this
      exact this
    rw [hW2]
    obtain ⟨d0, d1, _⟩ := hf2.cells
    refine bodyPost_ret (v := .tuple #[.int .u64 0, .agg #[.int .i64 0, .int .u64 0]]) (by simp [results, Try.results111, go_sem, d0, d1]) rfl ?_
    exact ⟨rfl, HI.out.below hb2, Keeps.of_below hb2⟩
  | cons x0 xr =>
    have hpos : 0 < (x0 :: xr).length := by simp
    obtain ⟨N, hN⟩ : ∃ N, N = (x0 :: xr).length := ⟨_, rfl⟩
    have hm : k % (x0 :: xr).length < (x0 :: xr).length := Nat.mod_lt _ hpos
    obtain ⟨g, off, eao, c0, c1⟩ := g5 _ hm
    obtain ⟨f1, f2, f3, f4⟩ := h.fits _ (List.getElem_mem hm)
    have e1 : nxO (x0 :: xr) k = (((x0 :: xr)[k % (x0 :: xr).length]).2, ((x0 :: xr)[k % (x0 :: xr).length]).1 % 3, ((x0 :: xr)[k % (x0 :: xr).length]).1) := dif_pos hm
    have e2 : upO (x0 :: xr) k = k + 1 := rfl
    have hne := HI.out.apart _ _ _ (by rw [eao])
    rw [e1, e2]
    generalize (x0 :: xr)[k % (x0 :: xr).length] = y at c0 c1 f1 f2 f3 f4
    obtain ⟨A, B⟩ := y
    subst eao
    rw [← hN] at c0 c1 hm hlen hpos g1 HI ⊢
    dsimp only at c0 c1 f1 f2 f3 f4 ⊢
    obtain ⟨q, hq⟩ : ∃ q, q = k % N := ⟨_, rfl⟩
    rw [← hq] at c0 c1 hm
    have hNi : ¬ (N : Int) = 0 := by omega
    have hN0 : ¬ N = 0 := by omega
    have hr : (k : Int).tmod (N : Int) = (q : Int) := by
      rw [Int.tmod_eq_emod_of_nonneg (by omega), hq]
      exact (Int.natCast_emod k N).symm
    have hrw : IntKind.i64.wrap ((k : Int).tmod (N : Int)) = (q : Int) := by
      rw [hr, IntKind.wrap_i64]; omega
    clear hq hN g3 g4 g5 e1 e2 h
    go_enter Try.func111, Try.ntmps111
    go_upto_region 3 with fail
    obtain ⟨W2, hW2⟩ : ∃ W2, (w.alloc (Obj.cells #[.slice (some ⟨g, off, none⟩) N cap, .pointer (some ⟨Ba, 0, none⟩)] 41)).alloc (Obj.cells #[.int .i64 0, .int .u64 0] 27) = W2 := ⟨_, rfl⟩
    have HB2 := Lib.hid (show Below w.heap.size w W2 from hW2 ▸ ((Below.refl _ w).alloc (Nat.le_refl _) _).alloc (by simp) _)
    have HF2 : Hid (BoxF W2 (w.heap.size + 1) 0 0) := by
      have := BoxF.new (w.alloc (Obj.cells #[.slice (some ⟨g, off, none⟩) N cap, .pointer (some ⟨Ba, 0, none⟩)] 41)) 0 0
      rw [World.size_alloc, hW2] at this
      exact this
    have u0 : W2.cell? ⟨w.heap.size, 0, none⟩ = some (.slice (some ⟨g, off, none⟩) N cap) := by rw [← hW2]; simp
    have u1 : W2.cell? ⟨w.heap.size, 1, none⟩ = some (.pointer (some ⟨Ba, 0, none⟩)) := by rw [← hW2]; simp
    have hgl : g < w.heap.size := World.block_lt_of_cell? w _ c0
    have v0 := (HB2.out.cell (p := ⟨g, off + q * 2, none⟩) hgl).trans c0
    have v1 := (HB2.out.cell (p := ⟨g, off + q * 2 + 1, none⟩) hgl).trans c1
    have hs2 : W2.heap.size = w.heap.size + 2 := by rw [← hW2]; simp
    rw [hW2]
    clear hW2 c0 c1
    have HI2 := Lib.hid (HI.out.below HB2.out)
    have z0 := HI2.out.count.cell
    have z1 := HI2.out.count.frozen
    have l1 : w.heap.size < W2.heap.size := by omega
    have l2 : Ba < W2.heap.size := by omega
    have l3 : g < W2.heap.size := by omega
    have l4 : w.heap.size + 1 < W2.heap.size := by omega
    have HS2 := Lib.hid hs2
    clear hs2
    go_region
    obtain ⟨W3, hW3⟩ : ∃ W3, (W2.alloc (Obj.cells #[.int .u64 A, .int .u64 B] 168)).drew = W3 := ⟨_, rfl⟩
    have HB3 := Lib.hid (show Below W2.heap.size W2 W3 from hW3 ▸ ((Below.refl _ W2).alloc (Nat.le_refl _) _).drew)
    have p0 : W3.cell? ⟨W2.heap.size, 0, none⟩ = some (.int .u64 A) := by rw [← hW3]; show World.cell? (World.alloc _ _) _ = _; simp
    have p1 : W3.cell? ⟨W2.heap.size, 1, none⟩ = some (.int .u64 B) := by rw [← hW3]; show World.cell? (World.alloc _ _) _ = _; simp
    rw [hW3]
    clear hW3 u0 v0 v1 z0 z1
    have w1 := (HB3.out.cell (p := ⟨w.heap.size, 1, none⟩) l1).trans u1
    have HI3 := Lib.hid (HI2.out.below HB3.out)
    have HF3 := Lib.hid (HF2.out.below HB3.out)
    have z0 := HI3.out.count.cell
    have z1 := HI3.out.count.frozen
    have hkw : IntKind.i64.wrap ((k : Int) + 1) = ((k + 1 : Nat) : Int) := by rw [IntKind.wrap_i64]; omega
    clear u1
    have hlb : W2.heap.size < W3.heap.size := World.block_lt_of_cell? W3 _ p0
    go_upto_region 5 with fail
    obtain ⟨W4, hW4⟩ : ∃ W4, W3.setCell ⟨Ba, 0, none⟩ (.int .i64 ((k : Int) + 1)) = W4 := ⟨_, rfl⟩
    have HI4 : Hid (OdI (x0 :: xr) (.slice (some ⟨g, off, none⟩) N cap) Ba (k + 1) W4) := by
      show OdI _ _ _ _ _
      rw [← hW4]
      exact HI3.out.set (k + 1)
    have HK4 : Hid (Keeps (fun j => j = Ba) W3 W4) := hW4 ▸ Keeps.setCell W3 Ba 0 _
    rw [hW4]
    clear hW4 z0 z1 w1
    have m0 := HK4.out.cellAt p0 (show ¬ W2.heap.size = Ba by omega)
    have m1 := HK4.out.cellAt p1 (show ¬ W2.heap.size = Ba by omega)
    have HF4 := Lib.hid (HF3.out.keeps HK4.out (show ¬ w.heap.size + 1 = Ba by omega))
    obtain ⟨x0', x1', y0, y1⟩ := HF4.out.cells
    have hA3 : IntKind.i64.wrap (A % 3) = A % 3 := by rw [IntKind.wrap_i64]; omega
    have l5 : w.heap.size + 1 ≠ W2.heap.size := by omega
    clear p0 p1
    go_region
    go_wp2_with fail
    obtain ⟨d0, d1, _⟩ := BoxF.cells (w := ((W4.setCell ⟨w.heap.size + 1, 0, none⟩ (.int .i64 (A % 3))).setCell ⟨w.heap.size + 1, 1, none⟩ (.int .u64 A)).drew) (HF4.out.set (A % 3) A)
    refine bodyPost_ret (v := .tuple #[.int .u64 B, .agg #[.int .i64 (A % 3), .int .u64 A]]) (by simp [results, Try.results111, go_sem, d0, d1]) rfl ?_
    have hk2 : Keeps (fun j => j = w.heap.size + 1) W4 (((W4.setCell ⟨w.heap.size + 1, 0, none⟩ (.int .i64 (A % 3))).setCell ⟨w.heap.size + 1, 1, none⟩ (.int .u64 A)).drew) := (Keeps.two W4 (w.heap.size + 1) (.int .i64 (A % 3)) (.int .u64 A)).drew
    refine ⟨rfl, HI4.out.keeps hk2 (show ¬ Ba = w.heap.size + 1 by omega) (fun a n c e => ?_), ?_⟩
    · cases e
      show ¬ g = w.heap.size + 1
      omega
    · exact (((Keeps.of_below HB2.out).trans (Keeps.of_below (S := fun _ => False) HB3.out) (fun _ _ h => h.elim)).trans HK4.out (fun _ _ e => e)).trans hk2 (fun i hi e => by omega)
theorem fault_u64 {xs : List Sp} {k : Nat} (h : ∀ x ∈ xs, 0 ≤ x.1 ∧ x.1 ≤ 18446744073709551615 ∧ 0 ≤ x.2 ∧ x.2 ≤ 18446744073709551615) : 0 ≤ (nxO xs k).1 ∧ (nxO xs k).1 ≤ 18446744073709551615 ∧ 0 ≤ (nxO xs k).2.1 ∧ (nxO xs k).2.1 ≤ 2 := by
  unfold nxO
  split
  · rename_i hm
    have := h _ (List.getElem_mem hm)
    dsimp only
    omega
  · decide
/-- what its methods take -/
def OddV (sv : Value) (Ba : Nat) : Value := .agg #[sv, .pointer (some ⟨Ba, 0, none⟩)]
/-- it as a Memory -/
def MemO (sv : Value) (Ba : Nat) : Value := .iface 41 (OddV sv Ba)
end Go.Proofs.Ytehedllcdpjebaa
/- WalkEnds: the odd memory's methods. Own work. -/
namespace Go.Proofs.Ytehedllcdpjebaa
open Go.RowKit Go.Maps Go.Proofs.Ytehedllcdpjebaa.Sp Wk
set_option maxRecDepth 100000 in
set_option maxHeartbeats 4000000 in
theorem opeek_any {xs : List Sp} {sv : Value} {Ba k : Nat} {w : World} (h : OdI xs sv Ba k w) (hk : k < 4611686018427387904) (a n : Int) :
    Calls Try.prog 109 #[OddV sv Ba, .int .u64 a, .int .i64 n] w fun e w' => e = .returned (.tuple #[.int .u64 (nxO xs k).1, .agg #[.int .i64 (nxO xs k).2.1, .int .u64 (nxO xs k).2.2]]) ∧ OdI xs sv Ba (upO xs k) w' ∧ Keeps (fun j => j = Ba) w w' := by
  have hba := h.lt
  have HI := Lib.hid h
  have HNx : Hid (∀ W, Below w.heap.size w W → Calls Try.prog 111 #[.agg #[sv, .pointer (some ⟨Ba, 0, none⟩)]] W fun e w' => e = .returned (.tuple #[.int .u64 (nxO xs k).1, .agg #[.int .i64 (nxO xs k).2.1, .int .u64 (nxO xs k).2.2]]) ∧ OdI xs sv Ba (upO xs k) w' ∧ Keeps (fun j => j = Ba) W w') := fun W hW => next_any (h.below hW) hk
  generalize nxO xs k = y at HNx ⊢
  obtain ⟨y0, y1, y2⟩ := y
  obtain ⟨ao, cap, hsv, _⟩ := h.row
  unfold OddV
  clear h
  subst hsv
  dsimp only at HNx ⊢
  go_enter Try.func109, Try.ntmps109
  go_wp2_with fail
  have HB2 := Lib.hid (((Below.refl w.heap.size w).alloc (Nat.le_refl _) (Obj.cells #[.slice ao xs.length cap, .pointer (some ⟨Ba, 0, none⟩)] 41)).alloc (by simp) (Obj.cells #[.int .i64 0, .int .u64 0] 27))
  have HF2 : Hid (BoxF ((w.alloc (Obj.cells #[.slice ao xs.length cap, .pointer (some ⟨Ba, 0, none⟩)] 41)).alloc (Obj.cells #[.int .i64 0, .int .u64 0] 27)) (w.heap.size + 1) 0 0) := by
    have := BoxF.new (w.alloc (Obj.cells #[.slice ao xs.length cap, .pointer (some ⟨Ba, 0, none⟩)] 41)) 0 0
    rw [World.size_alloc] at this
    exact this
  refine (HNx.out _ HB2.out).mono ?_
  rintro e w3 ⟨rfl, hi3, hk3⟩
  have HI3 := Lib.hid hi3
  have HK3 := Lib.hid hk3
  have HF3 := Lib.hid (HF2.out.keeps hk3 (show ¬ w.heap.size + 1 = Ba by omega))
  obtain ⟨x0, x1, f0, f1⟩ := HF3.out.cells
  clear hi3 hk3 HNx
  go_wp2_with fail
  obtain ⟨d0, d1, _⟩ := (HF3.out.set y1 y2).cells
  refine bodyPost_ret (v := .tuple #[.int .u64 y0, .agg #[.int .i64 y1, .int .u64 y2]]) (by simp [results, Try.results109, go_sem, d0, d1]) rfl ?_
  have hk2 := Keeps.two w3 (w.heap.size + 1) (.int .i64 y1) (.int .u64 y2)
  refine ⟨rfl, HI3.out.keeps hk2 (show ¬ Ba = w.heap.size + 1 by omega) (fun b n c e => ?_), ((Keeps.of_below HB2.out).trans HK3.out (fun _ _ e => e)).trans hk2 (fun i hi e => by omega)⟩
  obtain ⟨ao', cap', e', _, _, _, g4, _⟩ := HI.out.row
  cases e'
  cases e
  obtain ⟨g, off, rfl, hg⟩ := g4 _ rfl
  show ¬ g = w.heap.size + 1
  omega
set_option maxRecDepth 100000 in
set_option maxHeartbeats 4000000 in
theorem oload_any {xs : List Sp} {sv : Value} {Ba k : Nat} {w : World} (h : OdI xs sv Ba k w) (hk : k < 4611686018427387904) (a n : Int) :
    Calls Try.prog 108 #[OddV sv Ba, .int .u64 a, .int .i64 n] w fun e w' => e = .returned (.tuple #[.int .u64 (nxO xs k).1, .agg #[.int .i64 (nxO xs k).2.1, .int .u64 (nxO xs k).2.2]]) ∧ OdI xs sv Ba (upO xs k) w' ∧ Keeps (fun j => j = Ba) w w' := by
  have hba := h.lt
  have HI := Lib.hid h
  have HNx : Hid (∀ W, Below w.heap.size w W → Calls Try.prog 111 #[.agg #[sv, .pointer (some ⟨Ba, 0, none⟩)]] W fun e w' => e = .returned (.tuple #[.int .u64 (nxO xs k).1, .agg #[.int .i64 (nxO xs k).2.1, .int .u64 (nxO xs k).2.2]]) ∧ OdI xs sv Ba (upO xs k) w' ∧ Keeps (fun j => j = Ba) W w') := fun W hW => next_any (h.below hW) hk
  generalize nxO xs k = y at HNx ⊢
  obtain ⟨y0, y1, y2⟩ := y
  obtain ⟨ao, cap, hsv, _⟩ := h.row
  unfold OddV
  clear h
  subst hsv
  dsimp only at HNx ⊢
  go_enter Try.func108, Try.ntmps108
  go_wp2_with fail
  have HB2 := Lib.hid (((Below.refl w.heap.size w).alloc (Nat.le_refl _) (Obj.cells #[.slice ao xs.length cap, .pointer (some ⟨Ba, 0, none⟩)] 41)).alloc (by simp) (Obj.cells #[.int .i64 0, .int .u64 0] 27))
  have HF2 : Hid (BoxF ((w.alloc (Obj.cells #[.slice ao xs.length cap, .pointer (some ⟨Ba, 0, none⟩)] 41)).alloc (Obj.cells #[.int .i64 0, .int .u64 0] 27)) (w.heap.size + 1) 0 0) := by
    have := BoxF.new (w.alloc (Obj.cells #[.slice ao xs.length cap, .pointer (some ⟨Ba, 0, none⟩)] 41)) 0 0
    rw [World.size_alloc] at this
    exact this
  refine (HNx.out _ HB2.out).mono ?_
  rintro e w3 ⟨rfl, hi3, hk3⟩
  have HI3 := Lib.hid hi3
  have HK3 := Lib.hid hk3
  have HF3 := Lib.hid (HF2.out.keeps hk3 (show ¬ w.heap.size + 1 = Ba by omega))
  obtain ⟨x0, x1, f0, f1⟩ := HF3.out.cells
  clear hi3 hk3 HNx
  go_wp2_with fail
  obtain ⟨d0, d1, _⟩ := (HF3.out.set y1 y2).cells
  refine bodyPost_ret (v := .tuple #[.int .u64 y0, .agg #[.int .i64 y1, .int .u64 y2]]) (by simp [results, Try.results108, go_sem, d0, d1]) rfl ?_
  have hk2 := Keeps.two w3 (w.heap.size + 1) (.int .i64 y1) (.int .u64 y2)
  refine ⟨rfl, HI3.out.keeps hk2 (show ¬ Ba = w.heap.size + 1 by omega) (fun b n c e => ?_), ((Keeps.of_below HB2.out).trans HK3.out (fun _ _ e => e)).trans hk2 (fun i hi e => by omega)⟩
  obtain ⟨ao', cap', e', _, _, _, g4, _⟩ := HI.out.row
  cases e'
  cases e
  obtain ⟨g, off, rfl, hg⟩ := g4 _ rfl
  show ¬ g = w.heap.size + 1
  omega
theorem OdI.place {xs : List Sp} {sv : Value} {Ba k : Nat} {w : World} (h : OdI xs sv Ba k w) : ∀ a n c, sv = .slice (some a) n c → a.block < w.heap.size := by
  intro a n c e
  obtain ⟨ao', cap', rfl, _, _, _, g4, _⟩ := h.row
  cases e
  obtain ⟨g, off, rfl, hg⟩ := g4 _ rfl
  exact hg
set_option maxRecDepth 100000 in
set_option maxHeartbeats 4000000 in
theorem ostore_any {xs : List Sp} {sv : Value} {Ba k : Nat} {w : World} (h : OdI xs sv Ba k w) (hk : k < 4611686018427387904) (a n v : Int) :
    Calls Try.prog 110 #[OddV sv Ba, .int .u64 a, .int .i64 n, .int .u64 v] w fun e w' => e = .returned (.agg #[.int .i64 (nxO xs k).2.1, .int .u64 (nxO xs k).2.2]) ∧ OdI xs sv Ba (upO xs k) w' ∧ Keeps (fun j => j = Ba) w w' := by
  have hba := h.lt
  have HPl := Lib.hid h.place
  have HNx : Hid (∀ W, Below w.heap.size w W → Calls Try.prog 111 #[.agg #[sv, .pointer (some ⟨Ba, 0, none⟩)]] W fun e w' => e = .returned (.tuple #[.int .u64 (nxO xs k).1, .agg #[.int .i64 (nxO xs k).2.1, .int .u64 (nxO xs k).2.2]]) ∧ OdI xs sv Ba (upO xs k) w' ∧ Keeps (fun j => j = Ba) W w') := fun W hW => next_any (h.below hW) hk
  generalize nxO xs k = y at HNx ⊢
  obtain ⟨y0, y1, y2⟩ := y
  obtain ⟨ao, cap, hsv, _⟩ := h.row
  unfold OddV
  clear h
  subst hsv
  dsimp only at HNx ⊢
  go_enter Try.func110, Try.ntmps110
  go_wp2_with fail
  have HB2 := Lib.hid (((Below.refl w.heap.size w).alloc (Nat.le_refl _) (Obj.cells #[.slice ao xs.length cap, .pointer (some ⟨Ba, 0, none⟩)] 41)).alloc (by simp) (Obj.cells #[.int .i64 0, .int .u64 0] 27))
  have HF2 : Hid (BoxF ((w.alloc (Obj.cells #[.slice ao xs.length cap, .pointer (some ⟨Ba, 0, none⟩)] 41)).alloc (Obj.cells #[.int .i64 0, .int .u64 0] 27)) (w.heap.size + 1) 0 0) := by
    have := BoxF.new (w.alloc (Obj.cells #[.slice ao xs.length cap, .pointer (some ⟨Ba, 0, none⟩)] 41)) 0 0
    rw [World.size_alloc] at this
    exact this
  refine (HNx.out _ HB2.out).mono ?_
  rintro e w3 ⟨rfl, hi3, hk3⟩
  have HI3 := Lib.hid hi3
  have HK3 := Lib.hid hk3
  have HF3 := Lib.hid (HF2.out.keeps hk3 (show ¬ w.heap.size + 1 = Ba by omega))
  clear hi3 hk3 HNx
  go_upto_region 2 with fail
  obtain ⟨W4, hW4⟩ : ∃ W4, w3.alloc (Obj.cells #[.int .i64 y1, .int .u64 y2] 27) = W4 := ⟨_, rfl⟩
  have HB4 := Lib.hid (show Below w3.heap.size w3 W4 from hW4 ▸ (Below.refl _ w3).alloc (Nat.le_refl _) _)
  have HG4 : Hid (BoxF W4 w3.heap.size y1 y2) := hW4 ▸ BoxF.new w3 y1 y2
  have HF4 := Lib.hid (HF3.out.below HB4.out)
  rw [hW4]
  clear hW4
  obtain ⟨x0, x1, f0, f1⟩ := HF4.out.cells
  obtain ⟨u0, u1, _, _⟩ := HG4.out.cells
  have hne : w.heap.size + 1 ≠ w3.heap.size := Nat.ne_of_lt HF3.out.lt
  go_wp2_with fail
  obtain ⟨d0, d1, _⟩ := (HF4.out.set y1 y2).cells
  refine bodyPost_ret (v := .agg #[.int .i64 y1, .int .u64 y2]) (by simp [results, Try.results110, go_sem, d0, d1]) rfl ?_
  have hk2 := Keeps.two W4 (w.heap.size + 1) (.int .i64 y1) (.int .u64 y2)
  refine ⟨rfl, (HI3.out.below HB4.out).keeps hk2 (show ¬ Ba = w.heap.size + 1 by omega) (fun b n c e => ?_), (((Keeps.of_below HB2.out).trans HK3.out (fun _ _ e => e)).trans (Keeps.of_below (S := fun _ => False) HB4.out) (fun _ _ h => h.elim)).trans hk2 (fun i hi e => by omega)⟩
  have := HPl.out b n c e
  show ¬ b.block = w.heap.size + 1
  omega
end Go.Proofs.Ytehedllcdpjebaa
/- WalkEnds: look over the odd memory. Own work. -/
namespace Go.Proofs.Ytehedllcdpjebaa
open Go.RowKit Go.Maps Go.Proofs.Ytehedllcdpjebaa.Sp Wk
/-- what an entry says that it answers -/
def lookO (xs : List Sp) (k : Nat) (l : Int) : Ent × Int := if (nxO xs k).2.1 = 0 then entB (nxO xs k).1.toNat l else (no, 42)
theorem MemO_is (sv : Value) (Ba : Nat) : MemO sv Ba = .iface 41 (OddV sv Ba) := rfl
set_option maxRecDepth 100000 in
set_option maxHeartbeats 4000000 in
theorem olook_any {xs : List Sp} {sv : Value} {Ba k : Nat} {w : World} (h : OdI xs sv Ba k w) (hk : k < 4611686018427387904) (t i : Nat) (ht : t + 8 * i < 18446744073709551616) (l : Int) :
    Calls Try.prog 35 #[MemO sv Ba, .int .u64 (t : Int), .int .u64 (i : Int), .int .i64 l] w fun e w' => e = .returned (.tuple #[EntV (lookO xs k l).1, .int .i64 (lookO xs k l).2]) ∧ OdI xs sv Ba (upO xs k) w' ∧ Keeps (fun j => j = Ba) w w' := by
  have hba := h.lt
  have HPl := Lib.hid h.place
  have hme : ∀ (w : World) (x y : Value), (method 272 41 (.agg #[x, y]) "Peek").run Try.prog w = .ok (109, .agg #[x, y]) w := fun _ _ _ => by kernel_rfl
  obtain ⟨a, ha⟩ : ∃ a, a = t + 8 * i := ⟨_, rfl⟩
  have hai : (t : Int) + 8 * (i : Int) = (a : Int) := by omega
  have hwa : IntKind.u64.wrap ((t : Int) + 8 * (i : Int)) = (a : Int) := by rw [hai, IntKind.wrap_u64]; omega
  have hw8 : IntKind.u64.wrap (8 * (i : Int)) = 8 * (i : Int) := by rw [IntKind.wrap_u64]; omega
  have HPk : Hid (∀ W, Below w.heap.size w W → Calls Try.prog 109 #[OddV sv Ba, .int .u64 (a : Int), .int .i64 8] W _) := fun W hW => opeek_any (h.below hW) hk (a : Int) 8
  have HEn : Hid (∀ e : Nat, e < 18446744073709551616 → ∀ W, Calls Try.prog 52 #[.int .u64 (e : Int), .int .i64 l] W (EntPost W (entB e l))) := fun e he W => entry_any he l W
  have HLo : Hid (lookO xs k l = if (nxO xs k).2.1 = 0 then entB (nxO xs k).1.toNat l else (no, 42)) := rfl
  have hfu := fault_u64 (xs := xs) (k := k) h.fits
  generalize lookO xs k l = R at HLo ⊢
  generalize nxO xs k = y at HPk HLo hfu
  obtain ⟨y0, y1, y2⟩ := y
  dsimp only at HPk HLo hfu
  obtain ⟨v, hv⟩ : ∃ v : Nat, y0 = (v : Int) := ⟨y0.toNat, by omega⟩
  subst hv
  rw [Int.toNat_natCast] at HLo
  have hvl : v < 18446744073709551616 := by omega
  unfold MemO
  unfold OddV at HPk ⊢
  clear h ha
  by_cases hy : y1 = 0
  · subst hy
    have hR := HLo.out
    rw [if_pos rfl] at hR
    subst hR
    clear HLo
    go_enter Try.func35, Try.ntmps35
    go_wp2_with fail
    refine (HPk.out _ ((Below.refl _ _).alloc (Nat.le_refl _) _)).mono ?_
    rintro e w1 ⟨rfl, hi1, hk1⟩
    have HX1 : Hid (BoxE w1 w.heap.size no) := (BoxE.new w no).keeps hk1 (show ¬ w.heap.size = Ba by omega)
    have HI1 := Lib.hid hi1
    have HK1 : Hid (Keeps (fun j => j = Ba) w w1) := (Keeps.alloc (S := fun j => j = Ba) w _).trans hk1 (fun _ _ e => e)
    have hne : w.heap.size ≠ w1.heap.size := Nat.ne_of_lt HX1.out.lt
    have hlt1 := HX1.out.lt
    clear hi1 hk1 HPk
    obtain ⟨W2, hW2⟩ : ∃ W2, w1.alloc (Obj.cells #[.int .i64 0, .int .u64 y2] 27) = W2 := ⟨_, rfl⟩
    have HF2 : Hid (BoxF W2 w1.heap.size 0 y2) := hW2 ▸ BoxF.new w1 0 y2
    have HX2 : Hid (BoxE W2 w.heap.size no) := hW2 ▸ HX1.out.below ((Below.refl _ _).alloc (Nat.le_refl _) _)
    have HB2 : Hid (Below w1.heap.size w1 W2) := hW2 ▸ (Below.refl _ _).alloc (Nat.le_refl _) _
    have HPe : Hid (∀ W W', OdI xs sv Ba (upO xs k) W → Keeps (fun j => j = w.heap.size) W W' → OdI xs sv Ba (upO xs k) W') := fun W W' hi hk' => hi.keeps hk' (show ¬ Ba = w.heap.size by omega) (fun b n c e => by have := HPl.out b n c e; show ¬ b.block = w.heap.size; omega)
    obtain ⟨z0, z1, _, _⟩ := HF2.out.cells
    go_wp2_with fail
    refine (HEn.out v hvl _).mono ?_
    rintro e w2 ⟨rfl, hb2⟩
    have HX3 : Hid (BoxE w2 w.heap.size no) := HX2.out.below hb2
    have HB3 : Hid (Below W2.heap.size W2 w2) := hb2
    clear hb2
    obtain ⟨x0, x1, x2, x3, x4⟩ := HX3.out.cells
    have f0 := HX3.out.frozen 0
    have f1 := HX3.out.frozen 1
    have f2 := HX3.out.frozen 2
    have f3 := HX3.out.frozen 3
    have f4 := HX3.out.frozen 4
    obtain ⟨⟨⟨q0, q1, q2, q3, q4⟩, q5⟩, hq⟩ : ∃ q, q = entB v l := ⟨_, rfl⟩
    have HQ := Lib.hid hq
    rw [← hq]
    clear hq
    unfold EntV
    go_wp2_with fail
    obtain ⟨d0, d1, d2, d3, d4⟩ := (HX3.out.put (q0, q1, q2, q3, q4)).cells
    refine (fun (h : bodyPost _ _ _ _ _ (putE w2 w.heap.size (q0, q1, q2, q3, q4))) => h) ?_
    refine bodyPost_ret (v := .tuple #[EntV (q0, q1, q2, q3, q4), .int .i64 q5]) (by simp [results, Try.results35, go_sem, EntV, d0, d1, d2, d3, d4]) rfl ?_
    exact ⟨by rw [← HQ.out], HPe.out _ _ ((HI1.out.below HB2.out).below HB3.out) (putE_keeps _ _ _), ((HK1.out.trans (Keeps.of_below (S := fun _ => False) HB2.out) (fun _ _ h => h.elim)).trans (Keeps.of_below (S := fun _ => False) HB3.out) (fun _ _ h => h.elim)).trans (putE_keeps _ _ _) (fun i hi e => absurd e (by omega))⟩
  · have hyb : (y1 == 0) = false := by simpa using hy
    have hR := HLo.out
    rw [if_neg hy] at hR
    subst hR
    clear HLo
    go_enter Try.func35, Try.ntmps35
    go_wp2_with fail
    refine (HPk.out _ ((Below.refl _ _).alloc (Nat.le_refl _) _)).mono ?_
    rintro e w1 ⟨rfl, hi1, hk1⟩
    have HX1 : Hid (BoxE w1 w.heap.size no) := (BoxE.new w no).keeps hk1 (show ¬ w.heap.size = Ba by omega)
    have HI1 := Lib.hid hi1
    have HK1 : Hid (Keeps (fun j => j = Ba) w w1) := (Keeps.alloc (S := fun j => j = Ba) w _).trans hk1 (fun _ _ e => e)
    have hne : w.heap.size ≠ w1.heap.size := Nat.ne_of_lt HX1.out.lt
    have hlt1 := HX1.out.lt
    clear hi1 hk1 HPk
    obtain ⟨W2, hW2⟩ : ∃ W2, w1.alloc (Obj.cells #[.int .i64 y1, .int .u64 y2] 27) = W2 := ⟨_, rfl⟩
    have HF2 : Hid (BoxF W2 w1.heap.size y1 y2) := hW2 ▸ BoxF.new w1 y1 y2
    have HX2 : Hid (BoxE W2 w.heap.size no) := hW2 ▸ HX1.out.below ((Below.refl _ _).alloc (Nat.le_refl _) _)
    have HB2 : Hid (Below w1.heap.size w1 W2) := hW2 ▸ (Below.refl _ _).alloc (Nat.le_refl _) _
    have HPe : Hid (∀ W W', OdI xs sv Ba (upO xs k) W → Keeps (fun j => j = w.heap.size) W W' → OdI xs sv Ba (upO xs k) W') := fun W W' hi hk' => hi.keeps hk' (show ¬ Ba = w.heap.size by omega) (fun b n c e => by have := HPl.out b n c e; show ¬ b.block = w.heap.size; omega)
    obtain ⟨z0, z1, _, _⟩ := HF2.out.cells
    obtain ⟨x0, x1, x2, x3, x4⟩ := HX2.out.cells
    have f0 := HX2.out.frozen 0
    have f1 := HX2.out.frozen 1
    have f2 := HX2.out.frozen 2
    have f3 := HX2.out.frozen 3
    have f4 := HX2.out.frozen 4
    go_wp2_with fail
    obtain ⟨d0, d1, d2, d3, d4⟩ := (HX2.out.put no).cells
    refine (fun (h : bodyPost _ _ _ _ _ (putE W2 w.heap.size no)) => h) ?_
    refine bodyPost_ret (v := .tuple #[EntV no, .int .i64 42]) (by simp [results, Try.results35, go_sem, EntV, d0, d1, d2, d3, d4]) rfl ?_
    exact ⟨rfl, HPe.out _ _ (HI1.out.below HB2.out) (putE_keeps _ _ _), (HK1.out.trans (Keeps.of_below (S := fun _ => False) HB2.out) (fun _ _ h => h.elim)).trans (putE_keeps _ _ _) (fun i hi e => absurd e (by omega))⟩
end Go.Proofs.Ytehedllcdpjebaa
/- walk over any memory: leaf. Own work. -/
namespace Go.Proofs.Ytehedllcdpjebaa
open Go.RowKit Go.Maps Go.Proofs.Ytehedllcdpjebaa.Sp Wk
/-- the leaf of an address, where entries are what a relation says -/
def LeafG (LkR : Nat → Int → Ent × Int → Prop) (v : Nat) : Nat → Nat → Nat → Ent × Int → Prop
  | 0, _, _, _ => False
  | n + 1, l, t, r => ∃ r0, LkR (t + 8 * (v / (4096 * pgs l) % 512)) l r0 ∧ (((r0.2 ≠ 0 ∨ r0.1.2.1 = false) ∧ r = r0) ∨ (r0.2 = 0 ∧ r0.1.2.1 = true ∧ LeafG LkR v n (l + 1) r0.1.1 r))
/-- a memory: its blocks below N0, what a call may write Z, its meter, what its entries say -/
structure GEnv (MV : Value) (G : Nat → World → Prop) (Z : Nat → Prop) (N0 Q : Nat) (LkR : Nat → Int → Ent × Int → Prop) : Prop where
  abides : ∀ n A B, G n A → Below N0 A B → G n B
  mono : ∀ n k W, G n W → n ≤ k → G k W
  zlt : ∀ k, Z k → k < N0
  look : ∀ n W (t k : Nat) (l : Int), N0 ≤ W.heap.size → n < Q → t + 8 * k ≤ 18446744073709551615 → G n W → Calls Try.prog 35 #[MV, .int .u64 (t : Int), .int .u64 (k : Int), .int .i64 l] W fun e w' => ∃ r, e = .returned (.tuple #[EntV r.1, .int .i64 r.2]) ∧ LkR (t + 8 * k) l r ∧ G (n + 1) w' ∧ Keeps Z W w'
  lfr : ∀ a l r, LkR a l r → r.1.1 ≤ 4294963200
  ltab : ∀ a (l : Int) r, LkR a l r → r.2 = 0 → r.1.2.1 = true → l < 2 ∧ r.1.1 % 4096 = 0
theorem leafG_frame {MV : Value} {G : Nat → World → Prop} {Z : Nat → Prop} {N0 Q : Nat} {LkR : Nat → Int → Ent × Int → Prop} (E : GEnv MV G Z N0 Q LkR) {v : Nat} {r : Ent × Int} : ∀ {n l t : Nat}, LeafG LkR v n l t r → r.1.1 ≤ 4294963200
  | 0, _, _, h => h.elim
  | n + 1, l, t, h => by
    obtain ⟨r0, h0, h1 | h1⟩ := h
    · rw [h1.2]
      exact E.lfr _ _ _ h0
    · exact leafG_frame E h1.2.2
set_option maxRecDepth 100000 in
set_option maxHeartbeats 4000000 in
theorem leaf_g {MV : Value} {G : Nat → World → Prop} {Z : Nat → Prop} {N0 Q : Nat} {LkR : Nat → Int → Ent × Int → Prop} (E : GEnv MV G Z N0 Q LkR) {w : World} {n t v : Nat} (h : G n w) (hN : N0 ≤ w.heap.size) (hQ : n + 3 ≤ Q) (ht : t ≤ 18446744073709551615) (h4 : t % 4096 = 0) (hv : v ≤ 18446744073709551615) :
    Calls Try.prog 30 #[MV, .int .u64 (t : Int), .int .u64 (v : Int)] w fun e w' => ∃ r, e = .returned (.tuple #[EntV r.1, .int .i64 r.2]) ∧ LeafG LkR v 3 0 t r ∧ G (n + 3) w' ∧ Keeps Z w w' := by
  have HM := Lib.hid h
  have HE := Lib.hid E
  have HN := Lib.hid hN
  have HQ := Lib.hid hQ
  have HLk := Lib.hid E.look
  clear h hN hQ E
  have HRe : Hid (∀ (l : Nat), l ≤ 2 → ∀ W, Calls Try.prog 36 #[.int .i64 (l : Int)] W fun e w' => e = .returned (.int .u64 (4096 * pgs l : Nat)) ∧ Below W.heap.size W w') := fun l hl W => reach_any hl W
  go_enter Try.func30, Try.ntmps30
  go_wp2_with fail
  go_loopw [8, 9] (fun x y wr => ∃ (tt l : Nat), l ≤ 2 ∧ tt ≤ 18446744073709551615 ∧ tt % 4096 = 0 ∧ x = .int .u64 (tt : Int) ∧ y = .int .i64 (l : Int) ∧ Hid (G (n + l) wr) ∧ Hid (Keeps Z w wr) ∧ Hid (BoxE wr w.heap.size no) ∧ Hid (∀ r, LeafG LkR v (3 - l) l tt r → LeafG LkR v 3 0 t r)) (fun _ y _ => 3 - (intOf y).toNat)
  case atStart => exact ⟨t, 0, by omega, ht, h4, rfl, rfl, HE.out.abides _ _ _ HM.out ((Below.refl _ _).alloc HN.out _), Keeps.alloc (S := Z) w _, BoxE.new w no, fun _ h => h⟩
  case round =>
    obtain ⟨tt, l, hl, htt, htt4, rfl, rfl, HMr, HKr, HXr, HLr⟩ := hrel
    have hDp : 0 < 4096 * pgs l := by rcases (show l = 0 ∨ l = 1 ∨ l = 2 by omega) with rfl | rfl | rfl <;> simp [pgs]
    obtain ⟨D, hD⟩ : ∃ D, D = 4096 * pgs l := ⟨_, rfl⟩
    have HD : Hid (D = 4096 * pgs l) := hD
    have hReach := HRe.out l hl
    rw [← hD] at hDp hReach
    have HRe' : Hid (∀ W, Calls Try.prog 36 #[.int .i64 (l : Int)] W fun e w' => e = .returned (.int .u64 (D : Int)) ∧ Below W.heap.size W w') := hReach
    clear hReach hD HRe
    go_wp2_with fail
    refine (HRe'.out _).mono ?_
    rintro e w1 ⟨rfl, hb1⟩
    have HB1 : Hid (Below wr.heap.size wr w1) := hb1
    clear hb1
    have hD0 : (D : Int) ≠ 0 := by omega
    have hqv : v / D ≤ v := Nat.div_le_self _ _
    obtain ⟨q, hq⟩ : ∃ q, q = v / D := ⟨_, rfl⟩
    obtain ⟨k, hk⟩ : ∃ k, k = q % 512 := ⟨_, rfl⟩
    have HK : Hid (k = v / D % 512) := by show _ = _; rw [hk, hq]
    rw [← hq] at hqv
    have hw : IntKind.u64.wrap ((v : Int) / (D : Int)) = (q : Int) := by
      rw [← Int.natCast_ediv, ← hq]
      exact U64.wrap_in (by omega) (by omega)
    have hm : (q : Int).tmod 512 = (k : Int) := by
      rw [Int.tmod_eq_emod_of_nonneg (by omega), hk]
      omega
    have hk5 : k < 512 := by omega
    clear hk hq
    go_wp2_with fail
    clear hw hm hqv
    refine (HLk.out (n + l) w1 tt k l (by have := HKr.out.size; have := HB1.out.size; have := HN.out; omega) (by have := HQ.out; omega) (by omega) (HE.out.abides _ _ _ HMr.out (HB1.out.mono (by have := HKr.out.size; have := HN.out; omega)))).mono ?_
    rintro e w2 ⟨⟨⟨q0, q1, q2, q3, q4⟩, q5⟩, rfl, hr, hm2, hk2⟩
    have HR : Hid (LkR (tt + 8 * k) l ((q0, q1, q2, q3, q4), q5)) := hr
    have HM2 : Hid (G (n + l + 1) w2) := hm2
    have hNw := HN.out
    have hKz := HKr.out.size
    have hBz := HB1.out.size
    have hKz2 := hk2.size
    have HK2 : Hid (Keeps Z w w2) := (HKr.out.trans (Keeps.of_below (S := fun _ => False) HB1.out) (fun _ _ h => h.elim)).trans hk2 (fun _ _ e => e)
    have HX2 : Hid (BoxE w2 w.heap.size no) := (HXr.out.below HB1.out).keeps hk2 (fun hz => by have := HE.out.zlt _ hz; have := HN.out; omega)
    clear hr hm2 hk2
    obtain ⟨W3, hW3⟩ : ∃ W3, w2.alloc (Obj.cells #[.int .u64 (q0 : Int), .bool q1, .bool q2, .bool q3, .bool q4] 67) = W3 := ⟨_, rfl⟩
    have HE3 : Hid (BoxE W3 w2.heap.size (q0, q1, q2, q3, q4)) := hW3 ▸ BoxE.new w2 (q0, q1, q2, q3, q4)
    have HX3 : Hid (BoxE W3 w.heap.size no) := hW3 ▸ HX2.out.below ((Below.refl _ _).alloc (Nat.le_refl _) _)
    have HB3 : Hid (Below w2.heap.size w2 W3) := hW3 ▸ (Below.refl _ _).alloc (Nat.le_refl _) _
    have hlt := HX2.out.lt
    have hne : w.heap.size ≠ w2.heap.size := Nat.ne_of_lt hlt
    obtain ⟨y0, y1, y2, y3, y4⟩ := HE3.out.cells
    obtain ⟨x0, x1, x2, x3, x4⟩ := HX3.out.cells
    have f0 := HX3.out.frozen 0
    have f1 := HX3.out.frozen 1
    have f2 := HX3.out.frozen 2
    have f3 := HX3.out.frozen 3
    have f4 := HX3.out.frozen 4
    unfold EntV
    have HEnd : Hid (∀ r, (r.2 ≠ 0 ∨ r.1.2.1 = false) → LkR (tt + 8 * k) l r → LeafG LkR v 3 0 t r) := fun r hc hr => HLr.out r (by
      rw [show 3 - l = (2 - l) + 1 by omega]
      exact ⟨r, by rw [← HD.out, ← HK.out]; exact hr, .inl ⟨hc, rfl⟩⟩)
    have HFin : Hid (∀ x, G (n + 3) (putE W3 w.heap.size x) ∧ Keeps Z w (putE W3 w.heap.size x)) := fun x => by
      have hB3s := HB3.out.size
      refine ⟨HE.out.mono _ _ _ (HE.out.abides _ _ _ (HE.out.abides _ _ _ HM2.out (HB3.out.mono (by omega))) ((putE_keeps _ _ _).below (by omega) (fun i _ e => by omega))) (by omega), (HK2.out.trans (Keeps.of_below (S := fun _ => False) HB3.out) (fun _ _ h => h.elim)).trans (putE_keeps _ _ _) (fun i hi e => absurd e (by omega))⟩
    by_cases hq5 : q5 = 0
    · subst hq5
      cases q1 with
      | false =>
        go_wp2_with fail
        obtain ⟨d0, d1, d2, d3, d4⟩ := (HX3.out.put (q0, false, q2, q3, q4)).cells
        refine (fun (h : bodyPost _ _ _ _ _ (putE W3 w.heap.size (q0, false, q2, q3, q4))) => h) ?_
        refine bodyPost_ret (v := .tuple #[EntV (q0, false, q2, q3, q4), .int .i64 0]) (by simp [results, Try.results30, go_sem, EntV, d0, d1, d2, d3, d4]) rfl ?_
        exact ⟨((q0, false, q2, q3, q4), 0), rfl, HEnd.out _ (.inr rfl) HR.out, HFin.out _⟩
      | true =>
        obtain ⟨hl2, hq4⟩ := HE.out.ltab _ _ _ HR.out rfl rfl
        have hq0 := HE.out.lfr _ _ _ HR.out
        dsimp only at hq0 hq4
        go_wp2_with fail
        refine ⟨⟨q0, l + 1, by omega, by omega, hq4, rfl, rfl, HE.out.abides _ _ _ HM2.out (HB3.out.mono (by omega)), HK2.out.trans (Keeps.of_below (S := fun _ => False) HB3.out) (fun _ _ h => h.elim), HX3.out, fun r hr => HLr.out r ?_⟩, by simp [intOf]; omega⟩
        rw [show 3 - l = (3 - (l + 1)) + 1 by omega]
        exact ⟨_, by rw [← HD.out, ← HK.out]; exact HR.out, .inr ⟨rfl, rfl, hr⟩⟩
    · go_wp2_with fail
      obtain ⟨d0, d1, d2, d3, d4⟩ := (HX3.out.put (q0, q1, q2, q3, q4)).cells
      refine (fun (h : bodyPost _ _ _ _ _ (putE W3 w.heap.size (q0, q1, q2, q3, q4))) => h) ?_
      refine bodyPost_ret (v := .tuple #[EntV (q0, q1, q2, q3, q4), .int .i64 q5]) (by simp [results, Try.results30, go_sem, EntV, d0, d1, d2, d3, d4]) rfl ?_
      exact ⟨((q0, q1, q2, q3, q4), q5), rfl, HEnd.out _ (.inl hq5) HR.out, HFin.out _⟩
end Go.Proofs.Ytehedllcdpjebaa
/- walk over any memory: address, Translate. Own work. -/
namespace Go.Proofs.Ytehedllcdpjebaa
open Go.RowKit Go.Maps Go.Proofs.Ytehedllcdpjebaa.Sp Wk
def AddrG (LkR : Nat → Int → Ent × Int → Prop) (t v : Nat) (acc : Int) (r : Nat × Int) : Prop :=
  if acc ≠ 1 ∧ acc ≠ 2 ∧ acc ≠ 3 then r = (0, 1)
  else if 549755813888 ≤ v then r = (0, 40)
  else if t % 4096 ≠ 0 then r = (0, 42)
  else ∃ e, LeafG LkR v 3 0 t e ∧ r = addrB e acc v
def AddrGP (LkR : Nat → Int → Ent × Int → Prop) (G : Nat → World → Prop) (Z : Nat → Prop) (w : World) (n t v : Nat) (acc : Int) (e : Ending) (w' : World) : Prop :=
  ∃ r : Nat × Int, e = .returned (.tuple #[.int .u64 (r.1 : Int), .int .i64 r.2]) ∧ AddrG LkR t v acc r ∧ G (n + 3) w' ∧ Keeps Z w w'
set_option maxRecDepth 100000 in
set_option maxHeartbeats 8000000 in
theorem address_g {T : TypeId} {u : Value} {G : Nat → World → Prop} {Z : Nat → Prop} {N0 Q : Nat} {LkR : Nat → Int → Ent × Int → Prop} (E : GEnv (.iface T u) G Z N0 Q LkR) {w : World} {n t v : Nat} {acc : Int} (h : G n w) (hN : N0 ≤ w.heap.size) (hQ : n + 3 ≤ Q) (ht : t ≤ 18446744073709551615) (hv : v ≤ 18446744073709551615) :
    Calls Try.prog 14 #[.iface T u, .int .u64 (t : Int), .int .u64 (v : Int), .int .i64 acc] w (AddrGP LkR G Z w n t v acc) := by
  have HM := Lib.hid h
  have HE := Lib.hid E
  have HN := Lib.hid hN
  have HLf : Hid (t % 4096 = 0 → Calls Try.prog 30 #[.iface T u, .int .u64 (t : Int), .int .u64 (v : Int)] w fun e w' => ∃ r, e = .returned (.tuple #[EntV r.1, .int .i64 r.2]) ∧ LeafG LkR v 3 0 t r ∧ G (n + 3) w' ∧ Keeps Z w w') := fun h4 => leaf_g E h hN hQ ht h4 hv
  have HS : Hid (∀ r, AddrG LkR t v acc r → AddrGP LkR G Z w n t v acc (.returned (.tuple #[.int .u64 (r.1 : Int), .int .i64 r.2])) w) := fun r hr => ⟨r, rfl, hr, E.mono _ _ _ h (by omega), Keeps.refl _ _⟩
  clear h hN hQ E
  obtain ⟨t4, ht4⟩ : ∃ t4, t4 = t % 4096 := ⟨_, rfl⟩
  obtain ⟨vb, hvb⟩ : ∃ vb, vb = v % 2097152 := ⟨_, rfl⟩
  obtain ⟨vp, hvp⟩ : ∃ vp, vp = v % 4096 := ⟨_, rfl⟩
  have HT4 : Hid (t4 = t % 4096) := ht4
  have HVb : Hid (vb = v % 2097152) := hvb
  have HVp : Hid (vp = v % 4096) := hvp
  have e4 : (t : Int).tmod 4096 = (t4 : Int) := by rw [Int.tmod_eq_emod_of_nonneg (by omega), ht4]; omega
  have eb : (v : Int).tmod 2097152 = (vb : Int) := by rw [Int.tmod_eq_emod_of_nonneg (by omega), hvb]; omega
  have ep : (v : Int).tmod 4096 = (vp : Int) := by rw [Int.tmod_eq_emod_of_nonneg (by omega), hvp]; omega
  have lb : vb < 2097152 := by omega
  have lp : vp < 4096 := by omega
  clear ht4 hvb hvp
  obtain ⟨vi, hvi⟩ : ∃ vi : Int, vi = (v : Int) := ⟨_, rfl⟩
  rw [← hvi] at HLf eb ep ⊢
  have HVi : Hid (vi = (v : Int)) := hvi
  have hvi0 : 0 ≤ vi := by omega
  have hvi1 : vi ≤ 18446744073709551615 := by omega
  clear hvi hv
  go_enter Try.func14, Try.ntmps14
  by_cases hacc : acc ≠ 1 ∧ acc ≠ 2 ∧ acc ≠ 3
  · obtain ⟨h1, h2, h3⟩ := hacc
    have b1 : (acc != 1) = true := by simpa using h1
    have b2 : (acc != 2) = true := by simpa using h2
    have b3 : (acc != 3) = true := by simpa using h3
    go_wp2_with fail
    refine bodyPost_ret (v := .tuple #[.int .u64 ((0 : Nat) : Int), .int .i64 1]) (by simp [results, Try.results14, go_sem]) rfl ?_
    exact HS.out (0, 1) (by unfold AddrG; rw [if_pos ⟨h1, h2, h3⟩])
  · have hac : acc = 1 ∨ acc = 2 ∨ acc = 3 := by omega
    by_cases hvm : 549755813888 ≤ v
    · have HAll : Hid (AddrG LkR t v acc (0, 40)) := by show AddrG _ _ _ _ _; unfold AddrG; rw [if_neg hacc, if_pos hvm]
      have hvm' : 549755813888 ≤ vi := by have := HVi.out; omega
      clear hacc hvm
      rcases hac with rfl | rfl | rfl
      all_goals
        go_wp2_with fail
        refine bodyPost_ret (v := .tuple #[.int .u64 ((0 : Nat) : Int), .int .i64 40]) (by simp [results, Try.results14, go_sem]) rfl ?_
        exact HS.out (0, 40) HAll.out
    · by_cases h4 : t4 = 0
      · have HAll : Hid (∀ e r, LeafG LkR v 3 0 t e → r = addrB e acc v → AddrG LkR t v acc r) := fun e r he hr => by
          unfold AddrG
          rw [if_neg hacc, if_neg hvm, if_neg (by rw [← HT4.out]; omega)]
          exact ⟨e, he, hr⟩
        have hvm' : vi < 549755813888 := by have := HVi.out; omega
        clear hacc HS hvm
        subst h4
        rcases hac with rfl | rfl | rfl
        · go_wp2_with fail
          refine (HLf.out HT4.out.symm).mono ?_
          rintro e w1 ⟨⟨⟨q0, q1, q2, q3, q4⟩, q5⟩, rfl, hr, hm1, hk1⟩
          have HR : Hid (LeafG LkR v 3 0 t ((q0, q1, q2, q3, q4), q5)) := hr
          have hq0 : q0 ≤ 4294963200 := leafG_frame HE.out hr
          have HM1 : Hid (G (n + 3) w1) := hm1
          have HK1 : Hid (Keeps Z w w1) := hk1
          clear hr hm1 hk1 HLf
          obtain ⟨W2, hW2⟩ : ∃ W2, w1.alloc (Obj.cells #[.int .u64 (q0 : Int), .bool q1, .bool q2, .bool q3, .bool q4] 67) = W2 := ⟨_, rfl⟩
          have HE2 : Hid (BoxE W2 w1.heap.size (q0, q1, q2, q3, q4)) := hW2 ▸ BoxE.new w1 (q0, q1, q2, q3, q4)
          have HB2 : Hid (Below w1.heap.size w1 W2) := hW2 ▸ (Below.refl _ _).alloc (Nat.le_refl _) _
          have HZ : Hid (∀ r : Nat × Int, r = addrB ((q0, q1, q2, q3, q4), q5) 1 v → AddrGP LkR G Z w n t v 1 (.returned (.tuple #[.int .u64 (r.1 : Int), .int .i64 r.2])) W2) := fun r hr => ⟨r, rfl, HAll.out _ _ HR.out hr, HE.out.abides _ _ _ HM1.out (HB2.out.mono (by have := HN.out; have := HK1.out.size; omega)), HK1.out.trans (Keeps.of_below (S := fun _ => False) HB2.out) (fun _ _ h => h.elim)⟩
          obtain ⟨y0, y1, y2, y3, y4⟩ := HE2.out.cells
          have z4 := HE2.out.frozen 4
          unfold EntV
          by_cases hq5 : q5 = 0
          · subst hq5
            cases q2 with
            | true =>
              go_wp2_with fail
              refine bodyPost_ret (v := .tuple #[.int .u64 ((q0 : Int) + (vb : Int)), .int .i64 0]) (by simp [results, Try.results14, go_sem]) rfl ?_
              exact HZ.out (q0 + vb, 0) (by simp [addrB, HVb.out])
            | false =>
              go_wp2_with fail
              refine bodyPost_ret (v := .tuple #[.int .u64 ((q0 : Int) + (vp : Int)), .int .i64 0]) (by simp [results, Try.results14, go_sem]) rfl ?_
              exact HZ.out (q0 + vp, 0) (by simp [addrB, HVp.out])
          · go_wp2_with fail
            refine bodyPost_ret (v := .tuple #[.int .u64 ((0 : Nat) : Int), .int .i64 q5]) (by simp [results, Try.results14, go_sem]) rfl ?_
            exact HZ.out (0, q5) (by simp [addrB, hq5])
        · go_wp2_with fail
          refine (HLf.out HT4.out.symm).mono ?_
          rintro e w1 ⟨⟨⟨q0, q1, q2, q3, q4⟩, q5⟩, rfl, hr, hm1, hk1⟩
          have HR : Hid (LeafG LkR v 3 0 t ((q0, q1, q2, q3, q4), q5)) := hr
          have hq0 : q0 ≤ 4294963200 := leafG_frame HE.out hr
          have HM1 : Hid (G (n + 3) w1) := hm1
          have HK1 : Hid (Keeps Z w w1) := hk1
          clear hr hm1 hk1 HLf
          obtain ⟨W2, hW2⟩ : ∃ W2, w1.alloc (Obj.cells #[.int .u64 (q0 : Int), .bool q1, .bool q2, .bool q3, .bool q4] 67) = W2 := ⟨_, rfl⟩
          have HE2 : Hid (BoxE W2 w1.heap.size (q0, q1, q2, q3, q4)) := hW2 ▸ BoxE.new w1 (q0, q1, q2, q3, q4)
          have HB2 : Hid (Below w1.heap.size w1 W2) := hW2 ▸ (Below.refl _ _).alloc (Nat.le_refl _) _
          have HZ : Hid (∀ r : Nat × Int, r = addrB ((q0, q1, q2, q3, q4), q5) 2 v → AddrGP LkR G Z w n t v 2 (.returned (.tuple #[.int .u64 (r.1 : Int), .int .i64 r.2])) W2) := fun r hr => ⟨r, rfl, HAll.out _ _ HR.out hr, HE.out.abides _ _ _ HM1.out (HB2.out.mono (by have := HN.out; have := HK1.out.size; omega)), HK1.out.trans (Keeps.of_below (S := fun _ => False) HB2.out) (fun _ _ h => h.elim)⟩
          obtain ⟨y0, y1, y2, y3, y4⟩ := HE2.out.cells
          have z4 := HE2.out.frozen 4
          unfold EntV
          by_cases hq5 : q5 = 0
          · subst hq5
            cases q3 with
            | false =>
              go_wp2_with fail
              refine bodyPost_ret (v := .tuple #[.int .u64 ((0 : Nat) : Int), .int .i64 43]) (by simp [results, Try.results14, go_sem]) rfl ?_
              exact HZ.out (0, 43) (by simp [addrB])
            | true =>
              cases q2 with
              | true =>
                go_wp2_with fail
                refine bodyPost_ret (v := .tuple #[.int .u64 ((q0 : Int) + (vb : Int)), .int .i64 0]) (by simp [results, Try.results14, go_sem]) rfl ?_
                exact HZ.out (q0 + vb, 0) (by simp [addrB, HVb.out])
              | false =>
                go_wp2_with fail
                refine bodyPost_ret (v := .tuple #[.int .u64 ((q0 : Int) + (vp : Int)), .int .i64 0]) (by simp [results, Try.results14, go_sem]) rfl ?_
                exact HZ.out (q0 + vp, 0) (by simp [addrB, HVp.out])
          · go_wp2_with fail
            refine bodyPost_ret (v := .tuple #[.int .u64 ((0 : Nat) : Int), .int .i64 q5]) (by simp [results, Try.results14, go_sem]) rfl ?_
            exact HZ.out (0, q5) (by simp [addrB, hq5])
        · go_wp2_with fail
          refine (HLf.out HT4.out.symm).mono ?_
          rintro e w1 ⟨⟨⟨q0, q1, q2, q3, q4⟩, q5⟩, rfl, hr, hm1, hk1⟩
          have HR : Hid (LeafG LkR v 3 0 t ((q0, q1, q2, q3, q4), q5)) := hr
          have hq0 : q0 ≤ 4294963200 := leafG_frame HE.out hr
          have HM1 : Hid (G (n + 3) w1) := hm1
          have HK1 : Hid (Keeps Z w w1) := hk1
          clear hr hm1 hk1 HLf
          obtain ⟨W2, hW2⟩ : ∃ W2, w1.alloc (Obj.cells #[.int .u64 (q0 : Int), .bool q1, .bool q2, .bool q3, .bool q4] 67) = W2 := ⟨_, rfl⟩
          have HE2 : Hid (BoxE W2 w1.heap.size (q0, q1, q2, q3, q4)) := hW2 ▸ BoxE.new w1 (q0, q1, q2, q3, q4)
          have HB2 : Hid (Below w1.heap.size w1 W2) := hW2 ▸ (Below.refl _ _).alloc (Nat.le_refl _) _
          have HZ : Hid (∀ r : Nat × Int, r = addrB ((q0, q1, q2, q3, q4), q5) 3 v → AddrGP LkR G Z w n t v 3 (.returned (.tuple #[.int .u64 (r.1 : Int), .int .i64 r.2])) W2) := fun r hr => ⟨r, rfl, HAll.out _ _ HR.out hr, HE.out.abides _ _ _ HM1.out (HB2.out.mono (by have := HN.out; have := HK1.out.size; omega)), HK1.out.trans (Keeps.of_below (S := fun _ => False) HB2.out) (fun _ _ h => h.elim)⟩
          obtain ⟨y0, y1, y2, y3, y4⟩ := HE2.out.cells
          have z4 := HE2.out.frozen 4
          unfold EntV
          by_cases hq5 : q5 = 0
          · subst hq5
            cases q4 with
            | false =>
              go_wp2_with fail
              refine bodyPost_ret (v := .tuple #[.int .u64 ((0 : Nat) : Int), .int .i64 44]) (by simp [results, Try.results14, go_sem]) rfl ?_
              exact ⟨(0, 44), rfl, HAll.out _ _ HR.out (by simp [addrB]), HE.out.abides _ _ _ (HE.out.abides _ _ _ HM1.out (HB2.out.mono (by have := HN.out; have := HK1.out.size; omega))) ((Keeps.setCell _ w1.heap.size _ _).below (by have := HN.out; have := HK1.out.size; have := HB2.out.size; omega) (fun i _ e => by have := HN.out; have := HK1.out.size; omega)), (HK1.out.trans (Keeps.of_below (S := fun _ => False) HB2.out) (fun _ _ h => h.elim)).trans (Keeps.setCell _ w1.heap.size _ _) (fun i hi e => absurd e (by have := HK1.out.size; omega))⟩
            | true =>
              cases q2 with
              | true =>
                go_wp2_with fail
                refine bodyPost_ret (v := .tuple #[.int .u64 ((q0 : Int) + (vb : Int)), .int .i64 0]) (by simp [results, Try.results14, go_sem]) rfl ?_
                exact HZ.out (q0 + vb, 0) (by simp [addrB, HVb.out])
              | false =>
                go_wp2_with fail
                refine bodyPost_ret (v := .tuple #[.int .u64 ((q0 : Int) + (vp : Int)), .int .i64 0]) (by simp [results, Try.results14, go_sem]) rfl ?_
                exact HZ.out (q0 + vp, 0) (by simp [addrB, HVp.out])
          · go_wp2_with fail
            refine bodyPost_ret (v := .tuple #[.int .u64 ((0 : Nat) : Int), .int .i64 q5]) (by simp [results, Try.results14, go_sem]) rfl ?_
            exact HZ.out (0, q5) (by simp [addrB, hq5])
      · have HAll : Hid (AddrG LkR t v acc (0, 42)) := by show AddrG _ _ _ _ _; unfold AddrG; rw [if_neg hacc, if_neg hvm, if_pos (by rw [← HT4.out]; exact h4)]
        have hvm' : vi < 549755813888 := by have := HVi.out; omega
        clear hacc hvm
        rcases hac with rfl | rfl | rfl
        all_goals
          go_wp2_with fail
          refine bodyPost_ret (v := .tuple #[.int .u64 ((0 : Nat) : Int), .int .i64 42]) (by simp [results, Try.results14, go_sem]) rfl ?_
          exact HS.out (0, 42) HAll.out
end Go.Proofs.Ytehedllcdpjebaa
/- walk over any memory: Translate. Own work. -/
namespace Go.Proofs.Ytehedllcdpjebaa
open Go.RowKit Go.Maps Go.Proofs.Ytehedllcdpjebaa.Sp Wk
theorem addrG_zero {LkR : Nat → Int → Ent × Int → Prop} {t v : Nat} {acc : Int} {r : Nat × Int} (h : AddrG LkR t v acc r) (h0 : r.2 ≠ 0) : r.1 = 0 := by
  unfold AddrG at h
  split at h
  · rw [h]
  · split at h
    · rw [h]
    · split at h
      · rw [h]
      · obtain ⟨e, _, rfl⟩ := h
        exact addrB_zero h0
theorem addrG_lt {MV : Value} {G : Nat → World → Prop} {Z : Nat → Prop} {N0 Q : Nat} {LkR : Nat → Int → Ent × Int → Prop} (E : GEnv MV G Z N0 Q LkR) {t v : Nat} {acc : Int} {r : Nat × Int} (h : AddrG LkR t v acc r) : r.1 ≤ 18446744073709551615 := by
  unfold AddrG at h
  split at h
  · rw [h]; decide
  · split at h
    · rw [h]; decide
    · split at h
      · rw [h]; decide
      · obtain ⟨e, he, rfl⟩ := h
        have := leafG_frame E he
        unfold addrB
        split
        · exact Nat.zero_le _
        · split
          · decide
          · split
            · decide
            · split
              · dsimp only; omega
              · dsimp only; omega
set_option maxRecDepth 100000 in
set_option maxHeartbeats 4000000 in
theorem translate_g {T : TypeId} {u : Value} {G : Nat → World → Prop} {Z : Nat → Prop} {N0 Q : Nat} {LkR : Nat → Int → Ent × Int → Prop} (E : GEnv (.iface T u) G Z N0 Q LkR) {w : World} {n t v : Nat} {acc : Int} (h : G n w) (hN : N0 ≤ w.heap.size) (hQ : n + 3 ≤ Q) (ht : t ≤ 18446744073709551615) (hv : v ≤ 18446744073709551615) :
    Calls Try.prog 6 #[.iface T u, .int .u64 (t : Int), .int .u64 (v : Int), .int .i64 acc] w fun e w' => ∃ r : Nat × Int, e = .returned (.tuple #[.int .u64 (r.1 : Int), FaultV r.2 (whyAt r.2 v : Int)]) ∧ AddrG LkR t v acc r ∧ G (n + 3) w' ∧ Keeps Z w w' := by
  have HE := Lib.hid E
  have HN := Lib.hid hN
  have HA0 := Lib.hid (address_g (w := w.alloc (Obj.cells #[.int .i64 0, .int .u64 0] 27)) (acc := acc) E (E.abides _ _ _ h ((Below.refl _ _).alloc hN _)) (by simp; omega) hQ ht hv)
  clear h hN hQ E ht hv
  go_enter Try.func6, Try.ntmps6
  go_wp2_with fail
  refine HA0.out.mono ?_
  rintro e w1 ⟨⟨r1, r2⟩, rfl, hr, hm1, hk1⟩
  have HR := Lib.hid hr
  have HM1 := Lib.hid hm1
  have HK1 := Lib.hid hk1
  have hz1 := hk1.size
  simp only [World.size_alloc] at hz1
  have hNN := HN.out
  have HX1 : Hid (BoxF w1 w.heap.size 0 0) := (BoxF.new w 0 0).keeps hk1 (fun hz => by have := HE.out.zlt _ hz; omega)
  obtain ⟨x0, x1, f0, f1⟩ := HX1.out.cells
  clear HA0 hr hm1 hk1
  dsimp only
  have HFin : Hid (∀ (x : Int) (y : Int), G (n + 3) ((w1.setCell ⟨w.heap.size, 0, none⟩ (.int .i64 x)).setCell ⟨w.heap.size, 1, none⟩ (.int .u64 y)) ∧ Keeps Z w ((w1.setCell ⟨w.heap.size, 0, none⟩ (.int .i64 x)).setCell ⟨w.heap.size, 1, none⟩ (.int .u64 y))) := fun x y => by
    have hk2 := Keeps.two w1 w.heap.size (.int .i64 x) (.int .u64 y)
    have hk1 : Keeps Z w w1 := (Keeps.alloc (S := Z) w _).trans HK1.out (fun _ _ e => e)
    exact ⟨HE.out.abides _ _ _ HM1.out (hk2.below (by omega) (fun i _ e => by omega)), hk1.trans hk2 (fun i hi e => absurd e (by omega))⟩
  by_cases h0 : r2 = 0
  · subst h0
    go_wp2_with fail
    obtain ⟨d0, d1, _⟩ := (HX1.out.set 0 0).cells
    refine bodyPost_ret (v := .tuple #[.int .u64 (r1 : Int), .agg #[.int .i64 0, .int .u64 0]]) (by simp [results, Try.results6, go_sem, d0, d1]) rfl ?_
    exact ⟨(r1, 0), rfl, HR.out, HFin.out _ _⟩
  · have h1 : r1 = 0 := addrG_zero HR.out h0
    subst h1
    have HW : Hid (whyAt r2 v = v) := if_neg h0
    have h0e : (r2 == 0) = false := by simpa using h0
    go_wp2_with fail
    obtain ⟨d0, d1, _⟩ := (HX1.out.set r2 v).cells
    refine bodyPost_ret (v := .tuple #[.int .u64 0, .agg #[.int .i64 r2, .int .u64 (v : Int)]]) (by simp [results, Try.results6, go_sem, d0, d1]) rfl ?_
    exact ⟨(0, r2), by rw [HW.out]; rfl, HR.out, HFin.out _ _⟩
end Go.Proofs.Ytehedllcdpjebaa
/- walk over any memory: reached ends. Own work. -/
namespace Go.Proofs.Ytehedllcdpjebaa
open Go.RowKit Go.Maps Go.Proofs.Ytehedllcdpjebaa.Sp Wk
/-- the methods of a memory, for one byte: they end -/
structure GAcc (T : TypeId) (u : Value) (G : Nat → World → Prop) (Z : Nat → Prop) (N0 Q fp fl fs : Nat) : Prop where
  mp : ∀ w : World, (method 272 T u "Peek").run Try.prog w = .ok (fp, u) w
  ml : ∀ w : World, (method 272 T u "Load").run Try.prog w = .ok (fl, u) w
  ms : ∀ w : World, (method 272 T u "Store").run Try.prog w = .ok (fs, u) w
  ns : ∀ w : World, (nilAhead 272 T u "Store").run Try.prog w = .ok (some false) w
  ep : ∀ args (w : World), (callFunc fp args).run Try.prog w = .ok (.enter fp args) w
  el : ∀ args (w : World), (callFunc fl args).run Try.prog w = .ok (.enter fl args) w
  es : ∀ args (w : World), (callFunc fs args).run Try.prog w = .ok (.enter fs args) w
  peek : ∀ n W (a : Nat), a ≤ 18446744073709551615 → N0 ≤ W.heap.size → n < Q → G n W → Calls Try.prog fp #[u, .int .u64 (a : Int), .int .i64 1] W fun e w' => ∃ (z : Nat) (why x : Int), e = .returned (.tuple #[.int .u64 (z : Int), .agg #[.int .i64 why, .int .u64 x]]) ∧ z ≤ 18446744073709551615 ∧ G (n + 1) w' ∧ Keeps Z W w'
  load : ∀ n W (a : Nat), a ≤ 18446744073709551615 → N0 ≤ W.heap.size → n < Q → G n W → Calls Try.prog fl #[u, .int .u64 (a : Int), .int .i64 1] W fun e w' => ∃ (z : Nat) (why x : Int), e = .returned (.tuple #[.int .u64 (z : Int), .agg #[.int .i64 why, .int .u64 x]]) ∧ z ≤ 18446744073709551615 ∧ G (n + 1) w' ∧ Keeps Z W w'
  store : ∀ n W (a v : Nat), a ≤ 18446744073709551615 → N0 ≤ W.heap.size → n < Q → G n W → Calls Try.prog fs #[u, .int .u64 (a : Int), .int .i64 1, .int .u64 (v : Int)] W fun e w' => ∃ (why x : Int), e = .returned (.agg #[.int .i64 why, .int .u64 x]) ∧ G (n + 1) w' ∧ Keeps Z W w'
/-- what reached comes to: refused, or an address for each byte -/
def ReachE (w : World) (k : Nat) (e : Ending) (w' : World) : Prop :=
  (∃ (why x : Int), why ≠ 0 ∧ e = .returned (.tuple #[.slice none 0 0, .agg #[.int .i64 why, .int .u64 x]])) ∨
  (∃ (g : Nat) (ys : List Nat), e = .returned (.tuple #[.slice (some ⟨g, 0, none⟩) k k, .agg #[.int .i64 0, .int .u64 0]]) ∧ w.heap.size ≤ g ∧ RowA w' g ys ∧ ys.length = k ∧ ∀ y ∈ ys, y ≤ 18446744073709551615)
set_option maxRecDepth 100000 in
set_option maxHeartbeats 8000000 in
theorem reached_g {T : TypeId} {u : Value} {G : Nat → World → Prop} {Z : Nat → Prop} {N0 Q fp fl fs : Nat} {LkR : Nat → Int → Ent × Int → Prop} (E : GEnv (.iface T u) G Z N0 Q LkR) (A : GAcc T u G Z N0 Q fp fl fs) {w : World} {n t v k : Nat} {acc : Int} (h : G n w) (hN : N0 ≤ w.heap.size) (hQ : n + 32 ≤ Q) (ht : t ≤ 18446744073709551615) (hk : Wide k) :
    Calls Try.prog 16 #[.iface T u, .int .u64 (t : Int), .int .u64 (v : Int), .int .i64 (k : Int), .int .i64 acc] w fun e w' => ReachE w k e w' ∧ Hid (G (n + 32) w') ∧ Hid (Keeps Z w w') := by
  have HM := Lib.hid h
  have HE := Lib.hid E
  have HN := Lib.hid hN
  have HQ := Lib.hid hQ
  have k1 : 1 ≤ k := by rcases hk with h | h | h | h <;> omega
  have k8 : k ≤ 8 := by rcases hk with h | h | h | h <;> omega
  have HTr : Hid (∀ W i, i < k → N0 ≤ W.heap.size → G (n + 3 * i) W → Calls Try.prog 6 #[.iface T u, .int .u64 (t : Int), .int .u64 (vv v i : Int), .int .i64 acc] W fun e w' => ∃ (r1 : Nat) (r2 : Int), e = .returned (.tuple #[.int .u64 (r1 : Int), FaultV r2 (whyAt r2 (vv v i) : Int)]) ∧ Hid (r1 ≤ 18446744073709551615) ∧ Hid (G (n + 3 * (i + 1)) w') ∧ Hid (Keeps Z W w')) := fun W i hi hW hG => by
    refine (translate_g E (acc := acc) hG hW (by omega) ht (by unfold vv; omega)).mono ?_
    rintro e w' ⟨⟨r1, r2⟩, rfl, h1, h2, h3⟩
    exact ⟨r1, r2, rfl, addrG_lt E h1, h2, h3⟩
  have HPk := Lib.hid A.peek
  have hme := A.mp
  have hep := A.ep
  obtain ⟨i, hi, hz0, hz1, hz2⟩ := info_parts info_u64a
  have HIf : Hid (Try.prog.info? 24 = some i ∧ i.zero = some (.int .u64 0) ∧ i.size = 1 ∧ i.bytes = 8) := ⟨hi, hz0, hz1, hz2⟩
  have HK : Hid (Wide k) := hk
  have HX0 : Hid (BoxF (w.alloc (Obj.cells #[.int .i64 0, .int .u64 0] 27)) w.heap.size 0 0) := BoxF.new w 0 0
  have HnZ : Hid (∀ j, w.heap.size ≤ j → ¬ Z j) := fun j hj hz => by have := E.zlt j hz; omega
  have HAb : Hid (∀ m W W', G m W → Below N0 W W' → G m W') := E.abides
  clear hi hz0 hz1 hz2 hk h hN hQ E A
  go_enter Try.func16, Try.ntmps16
  go_upto_block 0 with fail
  go_cut [] (fun wx => wx = w.alloc (Obj.cells #[.int .i64 0, .int .u64 0] 27))
  case first =>
    rcases HK.out with rfl | rfl | rfl | rfl
    · go_wp2_with fail
      go_meet
      exact rfl
    · go_wp2_with fail
      go_meet
      exact rfl
    · go_wp2_with fail
      go_meet
      exact rfl
    · go_wp2_with fail
      go_meet
      exact rfl
  case rest =>
    have hcut := hcut.symm
    subst hcut
    go_wp2_with (at_make; refine wpList_make_full _ rfl _ _ 58 rfl w.heap.size 24 i (.int .u64 0) 1 Try.underlying58 HIf.out.1 HIf.out.2.1 HIf.out.2.2.1 _ _ _ _ k rfl rfl (by omega) (by omega) (by rw [HIf.out.2.2.2]; omega) (by simp only [maxLen]; omega) (by simp) ?_)
    intro w1 hown hgrow
    have HR1 : Hid (RowA w1 (w.heap.size + 1) (List.replicate k 0)) := madeA hown
    have hb1 : Below (w.heap.size + 1) (w.alloc (Obj.cells #[.int .i64 0, .int .u64 0] 27)) w1 := (Below.refl _ _).grown hgrow (by simp) (by simp)
    have HX1 : Hid (BoxF w1 w.heap.size 0 0) := (hb1.block w.heap.size (Nat.lt_succ_self _)).trans HX0.out
    have hbw : Below w.heap.size w w1 := ((Below.refl _ _).alloc (Nat.le_refl _) _).trans (hb1.mono (Nat.le_succ _))
    have HM1 : Hid (G n w1) := HAb.out _ _ _ HM.out (hbw.mono HN.out)
    have HK1 : Hid (Keeps Z w w1) := Keeps.of_below hbw
    clear hown hgrow hb1 hbw HX0 HIf
    go_wp2_with fail
    go_loopw [36] (fun iv wr => ∃ (q : Nat) (ys : List Nat), q ≤ k ∧ iv = .int .i64 (q : Int) ∧ Hid (RowA wr (w.heap.size + 1) ys ∧ ys.length = k ∧ ∀ y ∈ ys, y ≤ 18446744073709551615) ∧ Hid (BoxF wr w.heap.size 0 0) ∧ Hid (G (n + 3 * q) wr) ∧ Hid (Keeps Z w wr)) (fun iv _ => k - (intOf iv).toNat)
    case atStart => exact ⟨0, _, Nat.zero_le _, rfl, ⟨HR1.out, by simp, fun y hy => by rw [List.eq_of_mem_replicate hy]; decide⟩, HX1, HM1, HK1⟩
    case round =>
      clear HR1 HX1 HM1 HK1
      obtain ⟨q, ys, hq, rfl, HR, HXr, HMr, HKr⟩ := hrel
      by_cases hlt : q < k
      · have HCl := Lib.hid (HTr.out wr q hlt (Nat.le_trans HN.out HKr.out.size) HMr.out)
        have hwv : IntKind.u64.wrap ((v : Int) + (q : Int)) = (vv v q : Int) := by rw [IntKind.wrap_u64, vv]; omega
        generalize hx : vv v q = x at *
        clear hx
        go_wp2_with fail
        refine HCl.out.mono ?_
        rintro e w2 ⟨r1, r2, rfl, HL2, HM2, HK2⟩
        have HX2 : Hid (BoxF w2 w.heap.size 0 0) := HXr.out.keeps HK2.out (HnZ.out _ (Nat.le_refl _))
        have HR2 : Hid (RowA w2 (w.heap.size + 1) ys) := HR.out.1.keeps HK2.out (HnZ.out _ (Nat.le_succ _))
        have HKw2 : Hid (Keeps Z w w2) := HKr.out.trans HK2.out (fun _ _ e => e)
        have hlt2 := HR2.out.lt
        have hNw := HN.out
        clear HCl HK2
        unfold FaultV
        by_cases h0 : r2 = 0
        · subst h0
          have hlen : q < ys.length := by rw [HR.out.2.1]; exact hlt
          obtain ⟨c0, hc0⟩ : ∃ c0, ys[q] = c0 := ⟨_, rfl⟩
          have y0 := (HR2.out.below ((Below.refl _ _).alloc (Nat.le_refl _) (Obj.cells #[.int .i64 0, .int .u64 (whyAt 0 x : Int)] 27))).cell q hlen
          have y1 := (HR2.out.below ((Below.refl _ _).alloc (Nat.le_refl _) (Obj.cells #[.int .i64 0, .int .u64 (whyAt 0 x : Int)] 27))).thawed q
          rw [hc0] at y0
          clear hc0
          have qi : (q : Int) < (k : Int) := by omega
          generalize (whyAt 0 x : Int) = wa at *
          go_wp2_with fail
          go_roundw
          case rel =>
            have hk3 : Keeps (fun j => j = w.heap.size + 1) w2 (w2.setCell ⟨w.heap.size + 1, q, none⟩ (.int .u64 (r1 : Int))) := Keeps.setCell _ _ _ _
            have hb4 : Below (w2.setCell ⟨w.heap.size + 1, q, none⟩ (.int .u64 (r1 : Int))).heap.size (w2.setCell ⟨w.heap.size + 1, q, none⟩ (.int .u64 (r1 : Int))) ((w2.setCell ⟨w.heap.size + 1, q, none⟩ (.int .u64 (r1 : Int))).alloc (Obj.cells #[.int .i64 0, .int .u64 wa] 27)) := (Below.refl _ _).alloc (Nat.le_refl _) _
            have t1 := (HX2.out.keeps hk3 (show ¬ (w.heap.size = w.heap.size + 1) by omega)).below hb4
            have t2 := (HKw2.out.trans hk3 (fun i hi e => absurd (show i = w.heap.size + 1 from e) (Nat.ne_of_lt (Nat.lt_succ_of_lt hi)))).trans (Keeps.of_below (S := fun _ => False) hb4) (fun _ _ h => h.elim)
            refine ⟨q + 1, ys.set q r1, by omega, by go_num, ⟨(HR2.out.set q r1).below hb4, by rw [List.length_set]; exact HR.out.2.1, fun y hy => ?_⟩, t1, HAb.out _ _ _ (HAb.out _ _ _ HM2.out (hk3.below (by omega) (fun i _ e => by omega))) (hb4.mono (by simp; omega)), t2⟩
            rcases List.mem_or_eq_of_mem_set hy with h | rfl
            · exact HR.out.2.2 y h
            · exact HL2.out
          case measure => simp [intOf]; omega
        · have h0e : (r2 == 0) = false := by simpa using h0
          have hwx : whyAt r2 x = x := if_neg h0
          rw [hwx]
          obtain ⟨W3, hW3⟩ : ∃ W3, w2.alloc (Obj.cells #[.int .i64 r2, .int .u64 (x : Int)] 27) = W3 := ⟨_, rfl⟩
          have HF3 : Hid (BoxF W3 w2.heap.size r2 x) := hW3 ▸ BoxF.new w2 r2 x
          have HX3 : Hid (BoxF W3 w.heap.size 0 0) := hW3 ▸ HX2.out.below ((Below.refl _ _).alloc (Nat.le_refl _) _)
          have HB3 : Hid (Below w2.heap.size w2 W3) := hW3 ▸ (Below.refl _ _).alloc (Nat.le_refl _) _
          have hne : w.heap.size ≠ w2.heap.size := by omega
          obtain ⟨x0, x1, f0, f1⟩ := HX3.out.cells
          obtain ⟨y0, y1, _, _⟩ := HF3.out.cells
          go_wp2_with fail
          clear hW3
          go_region_held3 (fun w' => w'.cell? ⟨w2.heap.size, 0, none⟩ = some (.int .i64 r2) ∧ w'.cell? ⟨w2.heap.size, 1, none⟩ = some (.int .u64 (x : Int))) (go_keep) (fail)
          go_wp2_with fail
          obtain ⟨d0, d1, _⟩ := BoxF.cells (w := ((W3.setCell ⟨w.heap.size, 0, none⟩ (.int .i64 r2)).setCell ⟨w.heap.size, 1, none⟩ (.int .u64 (x : Int))).drew) (HX3.out.set r2 x)
          refine bodyPost_ret (v := .tuple #[.slice none 0 0, .agg #[.int .i64 r2, .int .u64 (x : Int)]]) (by simp [results, Try.results16, go_sem, d0, d1]) rfl ?_
          have hk2 : Keeps (fun j => j = w.heap.size) W3 (((W3.setCell ⟨w.heap.size, 0, none⟩ (.int .i64 r2)).setCell ⟨w.heap.size, 1, none⟩ (.int .u64 (x : Int))).drew) := (Keeps.two W3 w.heap.size (.int .i64 r2) (.int .u64 (x : Int))).drew
          have hB3z := HB3.out.size
          exact ⟨.inl ⟨r2, x, h0, rfl⟩, HE.out.mono _ _ _ (HAb.out _ _ _ (HAb.out _ _ _ HM2.out (HB3.out.mono (by omega))) (hk2.below (by omega) (fun i _ e => by omega))) (by omega), (HKw2.out.trans (Keeps.of_below (S := fun _ => False) HB3.out) (fun _ _ h => h.elim)).trans hk2 (fun i hi e => absurd e (by omega))⟩
      · obtain rfl : q = k := by omega
        obtain ⟨w2, hw2⟩ : ∃ w2, w2 = wr := ⟨_, rfl⟩
        subst hw2
        clear HTr hlt hq
        go_wp2_with fail
        go_loopw [61] (fun iv wr => ∃ p : Nat, p ≤ q ∧ iv = .int .i64 (p : Int) ∧ Hid (RowA wr (w.heap.size + 1) ys) ∧ Hid (BoxF wr w.heap.size 0 0) ∧ Hid (G (n + 3 * q + p) wr) ∧ Hid (Keeps Z w wr)) (fun iv _ => q - (intOf iv).toNat)
        case atStart => exact ⟨0, Nat.zero_le _, rfl, HR.out.1, HXr, HMr, HKr⟩
        case round =>
          have HYs := Lib.hid HR.out.2
          clear HR HXr HMr HKr
          obtain ⟨p, hp, rfl, HR, HXr, HMr, HKr⟩ := hrel
          by_cases hlt : p < q
          · have hlen : p < ys.length := by rw [HYs.out.1]; exact hlt
            have y0 := HR.out.cell p hlen
            have hy9 := HYs.out.2 _ (List.getElem_mem hlen)
            generalize ys[p] = r1 at *
            have hNw := HN.out
            have hKz := HKr.out.size
            have HCl := Lib.hid (HPk.out (n + 3 * q + p) wr r1 hy9 (by omega) (by have := HQ.out; omega) HMr.out)
            have qi : (p : Int) < (q : Int) := by omega
            go_wp2_with fail
            refine HCl.out.mono ?_
            rintro e w3 ⟨z, why, x, rfl, hz, hm3, hk3⟩
            have HM3 := Lib.hid hm3
            have HX3 : Hid (BoxF w3 w.heap.size 0 0) := HXr.out.keeps hk3 (HnZ.out _ (Nat.le_refl _))
            have HR3 : Hid (RowA w3 (w.heap.size + 1) ys) := HR.out.keeps hk3 (HnZ.out _ (Nat.le_succ _))
            have HKw3 : Hid (Keeps Z w w3) := HKr.out.trans hk3 (fun _ _ e => e)
            have hlt3 := HR3.out.lt
            clear HCl hm3 hk3 y0 hz
            by_cases hw : why = 0
            · subst hw
              have HB4 : Hid (Below w3.heap.size w3 (w3.alloc (Obj.cells #[.int .i64 0, .int .u64 x] 27))) := (Below.refl _ _).alloc (Nat.le_refl _) _
              go_wp2_with fail
              go_roundw
              case rel => exact ⟨p + 1, by omega, by go_num, HR3.out.below HB4.out, HX3.out.below HB4.out, HAb.out _ _ _ HM3.out (HB4.out.mono (by omega)), HKw3.out.trans (Keeps.of_below (S := fun _ => False) HB4.out) (fun _ _ h => h.elim)⟩
              case measure => simp [intOf]; omega
            · have hwb : (why == 0) = false := by simpa using hw
              have HB4 : Hid (Below w3.heap.size w3 (w3.alloc (Obj.cells #[.int .i64 why, .int .u64 x] 27))) := (Below.refl _ _).alloc (Nat.le_refl _) _
              have HSt := Lib.hid (stray_any (v := v) (i := p) (w3.alloc (Obj.cells #[.int .i64 why, .int .u64 x] 27)) (by omega))
              go_wp2_with fail
              refine HSt.out.mono ?_
              rintro e w5 ⟨rfl, hb5⟩
              have HB5 : Hid (Below w3.heap.size w3 w5) := HB4.out.trans (hb5.mono HB4.out.size)
              have HX5 : Hid (BoxF w5 w.heap.size 0 0) := HX3.out.below HB5.out
              obtain ⟨x0, x1, f0, f1⟩ := HX5.out.cells
              clear hb5 HSt
              unfold FaultV
              generalize vv v p = y at *
              go_wp2_with fail
              obtain ⟨d0, d1, _⟩ := (HX5.out.set 30 y).cells
              refine bodyPost_ret (v := .tuple #[.slice none 0 0, .agg #[.int .i64 30, .int .u64 (y : Int)]]) (by simp [results, Try.results16, go_sem, d0, d1]) rfl ?_
              have hk2 := Keeps.two w5 w.heap.size (.int .i64 30) (.int .u64 (y : Int))
              have hB5z := HB5.out.size
              exact ⟨.inl ⟨30, y, by decide, rfl⟩, HE.out.mono _ _ _ (HAb.out _ _ _ (HAb.out _ _ _ HM3.out (HB5.out.mono (by omega))) (hk2.below (by omega) (fun i _ e => by omega))) (by omega), (HKw3.out.trans (Keeps.of_below (S := fun _ => False) HB5.out) (fun _ _ h => h.elim)).trans hk2 (fun i hi e => absurd e (by omega))⟩
          · obtain rfl : p = q := by omega
            obtain ⟨x0, x1, f0, f1⟩ := HXr.out.cells
            have hNw := HN.out
            have hKz := HKr.out.size
            go_wp2_with fail
            obtain ⟨d0, d1, _⟩ := (HXr.out.set 0 0).cells
            refine bodyPost_ret (v := .tuple #[.slice (some ⟨w.heap.size + 1, 0, none⟩) p p, .agg #[.int .i64 0, .int .u64 0]]) (by simp [results, Try.results16, go_sem, d0, d1]) rfl ?_
            have hk2 := Keeps.two wr w.heap.size (.int .i64 0) (.int .u64 0)
            exact ⟨.inr ⟨w.heap.size + 1, ys, rfl, by omega, HR.out.keeps hk2 (by omega), HYs.out⟩, HE.out.mono _ _ _ (HAb.out _ _ _ HMr.out (hk2.below (by omega) (fun i _ e => by omega))) (by omega), HKr.out.trans hk2 (fun i hi e => absurd e (by omega))⟩
set_option maxRecDepth 100000 in
set_option maxHeartbeats 4000000 in
/-- a width that is none -/
theorem reached_narrow {T : TypeId} {u : Value} {w : World} {t v : Nat} {k acc : Int} (hk : k ≠ 1 ∧ k ≠ 2 ∧ k ≠ 4 ∧ k ≠ 8) :
    Calls Try.prog 16 #[.iface T u, .int .u64 (t : Int), .int .u64 (v : Int), .int .i64 k, .int .i64 acc] w fun e w' => e = .returned (.tuple #[.slice none 0 0, .agg #[.int .i64 31, .int .u64 (v : Int)]]) ∧ Below w.heap.size w w' := by
  obtain ⟨h1, h2, h3, h4⟩ := hk
  have b1 : (k == 1) = false := by simpa using h1
  have b2 : (k == 2) = false := by simpa using h2
  have b3 : (k == 4) = false := by simpa using h3
  have b4 : (k == 8) = false := by simpa using h4
  go_enter Try.func16, Try.ntmps16
  go_wp2_with fail
  obtain ⟨d0, d1, _⟩ := (BoxF.new w 31 v).cells
  refine bodyPost_ret (v := .tuple #[.slice none 0 0, .agg #[.int .i64 31, .int .u64 (v : Int)]]) (by simp [results, Try.results16, go_sem]) rfl ?_
  exact ⟨rfl, (Below.refl _ w).alloc (Nat.le_refl _) _⟩
end Go.Proofs.Ytehedllcdpjebaa
/- walk over any memory: take ends. Own work. -/
namespace Go.Proofs.Ytehedllcdpjebaa
open Go.RowKit Go.Maps Go.Proofs.Ytehedllcdpjebaa.Sp Wk
/-- reached of any width -/
theorem reached_e {T : TypeId} {u : Value} {G : Nat → World → Prop} {Z : Nat → Prop} {N0 Q fp fl fs : Nat} {LkR : Nat → Int → Ent × Int → Prop} (E : GEnv (.iface T u) G Z N0 Q LkR) (A : GAcc T u G Z N0 Q fp fl fs) {w : World} {n t v : Nat} {k acc : Int} (h : G n w) (hN : N0 ≤ w.heap.size) (hQ : n + 32 ≤ Q) (ht : t ≤ 18446744073709551615) :
    Calls Try.prog 16 #[.iface T u, .int .u64 (t : Int), .int .u64 (v : Int), .int .i64 k, .int .i64 acc] w fun e w' => (∃ kk : Nat, kk ≤ 8 ∧ ReachE w kk e w') ∧ Hid (G (n + 32) w') ∧ Hid (Keeps Z w w') := by
  by_cases hk : k = 1 ∨ k = 2 ∨ k = 4 ∨ k = 8
  · obtain ⟨kk, rfl, hw⟩ : ∃ kk : Nat, k = (kk : Int) ∧ Wide kk := by
      rcases hk with rfl | rfl | rfl | rfl
      · exact ⟨1, rfl, .inl rfl⟩
      · exact ⟨2, rfl, .inr (.inl rfl)⟩
      · exact ⟨4, rfl, .inr (.inr (.inl rfl))⟩
      · exact ⟨8, rfl, .inr (.inr (.inr rfl))⟩
    refine (reached_g E A h hN hQ ht hw).mono ?_
    rintro e w' ⟨h1, h2, h3⟩
    exact ⟨⟨kk, by rcases hw with h | h | h | h <;> omega, h1⟩, h2, h3⟩
  · refine (reached_narrow (k := k) (acc := acc) (by omega)).mono ?_
    rintro e w' ⟨rfl, hb⟩
    exact ⟨⟨0, by omega, .inl ⟨31, _, by decide, rfl⟩⟩, E.mono _ _ _ (E.abides _ _ _ h (hb.mono hN)) (by omega), Keeps.of_below hb⟩
set_option maxRecDepth 100000 in
set_option maxHeartbeats 8000000 in
theorem take_g {T : TypeId} {u : Value} {G : Nat → World → Prop} {Z : Nat → Prop} {N0 Q fp fl fs : Nat} {LkR : Nat → Int → Ent × Int → Prop} (E : GEnv (.iface T u) G Z N0 Q LkR) (A : GAcc T u G Z N0 Q fp fl fs) {w : World} {n t v : Nat} {k acc : Int} (h : G n w) (hN : N0 ≤ w.heap.size) (hQ : n + 64 ≤ Q) (ht : t ≤ 18446744073709551615) :
    Calls Try.prog 15 #[.iface T u, .int .u64 (t : Int), .int .u64 (v : Int), .int .i64 k, .int .i64 acc] w fun e w' => (∃ (z : Nat) (why x : Int), e = .returned (.tuple #[.int .u64 (z : Int), .agg #[.int .i64 why, .int .u64 x]])) ∧ Hid (G (n + 64) w') ∧ Hid (Keeps Z w w') := by
  have HE := Lib.hid E
  have HN := Lib.hid hN
  have HQ := Lib.hid hQ
  have HRe := Lib.hid (reached_e (w := w.alloc (Obj.cells #[.int .i64 0, .int .u64 0] 27)) (v := v) (k := k) (acc := acc) E A (E.abides _ _ _ h ((Below.refl _ _).alloc hN _)) (by simp; omega) (by omega) ht)
  have HLd := Lib.hid A.load
  have hme := A.ml
  have hep := A.el
  have HX0 : Hid (BoxF (w.alloc (Obj.cells #[.int .i64 0, .int .u64 0] 27)) w.heap.size 0 0) := BoxF.new w 0 0
  have HnZ : Hid (∀ j, w.heap.size ≤ j → ¬ Z j) := fun j hj hz => by have := E.zlt j hz; omega
  have HAb : Hid (∀ m W W', G m W → Below N0 W W' → G m W') := E.abides
  clear h hN hQ E A
  go_enter Try.func15, Try.ntmps15
  go_wp2_with fail
  refine HRe.out.mono ?_
  rintro e w1 ⟨⟨kk, hk8, hP⟩, HM1, HK1⟩
  have HX1 : Hid (BoxF w1 w.heap.size 0 0) := HX0.out.keeps HK1.out (HnZ.out _ (Nat.le_refl _))
  have HKw1 : Hid (Keeps Z w w1) := (Keeps.alloc (S := Z) w _).trans HK1.out (fun _ _ e => e)
  have hlt1 := HX1.out.lt
  have hNw := HN.out
  clear HRe HX0 HK1
  rcases hP with ⟨why, x, h0, rfl⟩ | ⟨g, ys, rfl, hg, hrow, hyl, hyb⟩
  · have h0e : (why == 0) = false := by simpa using h0
    obtain ⟨W3, hW3⟩ : ∃ W3, w1.alloc (Obj.cells #[.int .i64 why, .int .u64 x] 27) = W3 := ⟨_, rfl⟩
    have HF3 : Hid (BoxF W3 w1.heap.size why x) := hW3 ▸ BoxF.new w1 why x
    have HX3 : Hid (BoxF W3 w.heap.size 0 0) := hW3 ▸ HX1.out.below ((Below.refl _ _).alloc (Nat.le_refl _) _)
    have HB3 : Hid (Below w1.heap.size w1 W3) := hW3 ▸ (Below.refl _ _).alloc (Nat.le_refl _) _
    have hne : w.heap.size ≠ w1.heap.size := by omega
    obtain ⟨x0, x1, f0, f1⟩ := HX3.out.cells
    obtain ⟨y0, y1, _, _⟩ := HF3.out.cells
    go_wp2_with fail
    clear hW3
    go_region_held3 (fun w' => w'.cell? ⟨w1.heap.size, 0, none⟩ = some (.int .i64 why) ∧ w'.cell? ⟨w1.heap.size, 1, none⟩ = some (.int .u64 x)) (go_keep) (fail)
    go_wp2_with fail
    obtain ⟨d0, d1, _⟩ := BoxF.cells (w := ((W3.setCell ⟨w.heap.size, 0, none⟩ (.int .i64 why)).setCell ⟨w.heap.size, 1, none⟩ (.int .u64 x)).drew) (HX3.out.set why x)
    refine bodyPost_ret (v := .tuple #[.int .u64 ((0 : Nat) : Int), .agg #[.int .i64 why, .int .u64 x]]) (by simp [results, Try.results15, go_sem, d0, d1]) rfl ?_
    have hk2 : Keeps (fun j => j = w.heap.size) W3 (((W3.setCell ⟨w.heap.size, 0, none⟩ (.int .i64 why)).setCell ⟨w.heap.size, 1, none⟩ (.int .u64 x)).drew) := (Keeps.two W3 w.heap.size (.int .i64 why) (.int .u64 x)).drew
    have hB3z := HB3.out.size
    exact ⟨⟨0, why, x, rfl⟩, HE.out.mono _ _ _ (HAb.out _ _ _ (HAb.out _ _ _ HM1.out (HB3.out.mono (by omega))) (hk2.below (by omega) (fun i _ e => by omega))) (by omega), (HKw1.out.trans (Keeps.of_below (S := fun _ => False) HB3.out) (fun _ _ h => h.elim)).trans hk2 (fun i hi e => absurd e (by omega))⟩
  · have HRw : Hid (RowA w1 g ys) := hrow
    have HYs : Hid (ys.length = kk ∧ ∀ y ∈ ys, y ≤ 18446744073709551615) := ⟨hyl, hyb⟩
    have hgl : w.heap.size < g ∧ g < w1.heap.size := ⟨by simp at hg; omega, hrow.lt⟩
    obtain ⟨hg1, hg2⟩ := hgl
    clear hrow hg hyl hyb
    go_wp2_with fail
    obtain ⟨W2, hW2⟩ : ∃ W2, (w1.alloc (Obj.cells #[.int .i64 0, .int .u64 0] 27)).alloc (Obj.cells #[.int .u8 0, .int .u8 0, .int .u8 0, .int .u8 0, .int .u8 0, .int .u8 0, .int .u8 0, .int .u8 0] 93) = W2 := ⟨_, rfl⟩
    have HB2 : Hid (Below w1.heap.size w1 W2) := hW2 ▸ ((Below.refl _ _).alloc (Nat.le_refl _) _).alloc (by simp) _
    have HR2 : Hid (RowT W2 93 (w1.heap.size + 1) [0, 0, 0, 0, 0, 0, 0, 0]) := by rw [← hW2]; exact heap_alloc_new' (by simp) _
    rw [hW2]
    have s8 := slice8_all
    have HX2 : Hid (BoxF W2 w.heap.size 0 0) := HX1.out.below HB2.out
    have HRw2 : Hid (RowA W2 g ys) := HRw.out.below HB2.out
    have HM2 : Hid (G (n + 32) W2) := HAb.out _ _ _ HM1.out (HB2.out.mono (by omega))
    have HKw2 : Hid (Keeps Z w W2) := HKw1.out.trans (Keeps.of_below (S := fun _ => False) HB2.out) (fun _ _ h => h.elim)
    clear hW2 HX1 HRw HM1 HKw1
    generalize hgb : w1.heap.size + 1 = gb at *
    have hgb2 : g < gb := by omega
    clear hgb
    go_loopw [36] (fun iv wr => ∃ (q : Nat) (zs : List Nat), q ≤ kk ∧ iv = .int .i64 (q : Int) ∧ Hid (RowA wr g ys) ∧ Hid (RowT wr 93 gb zs ∧ zs.length = 8 ∧ ∀ z ∈ zs, z < 256) ∧ Hid (BoxF wr w.heap.size 0 0) ∧ Hid (G (n + 32 + q) wr) ∧ Hid (Keeps Z w wr)) (fun iv _ => kk - (intOf iv).toNat)
    case atStart => exact ⟨0, _, Nat.zero_le _, rfl, HRw2, ⟨HR2.out, rfl, by decide⟩, HX2, HM2, HKw2⟩
    case round =>
      clear HRw2 HR2 HX2 HM2 HKw2
      obtain ⟨q, zs, hq, rfl, HRw, HR, HXr, HMr, HKr⟩ := hrel
      have hKz := HKr.out.size
      by_cases hlt : q < kk
      · have hlen : q < ys.length := by rw [HYs.out.1]; exact hlt
        have y0 := HRw.out.cell q hlen
        have hy9 := HYs.out.2 _ (List.getElem_mem hlen)
        generalize ys[q] = r1 at *
        have HCl := Lib.hid (HLd.out (n + 32 + q) wr r1 hy9 (by omega) (by have := HQ.out; omega) HMr.out)
        have qi : (q : Int) < (kk : Int) := by omega
        have q8 : (q : Int) < 8 := by omega
        have q8n : q < 8 := by omega
        go_wp2_with fail
        refine HCl.out.mono ?_
        rintro e w3 ⟨z, why, x, rfl, hz, hm3, hk3⟩
        have HM3 := Lib.hid hm3
        have HX3 : Hid (BoxF w3 w.heap.size 0 0) := HXr.out.keeps hk3 (HnZ.out _ (Nat.le_refl _))
        have HR3 : Hid (RowT w3 93 gb zs) := rowT_keeps HR.out.1 hk3 (HnZ.out _ (by omega))
        have HRw3 : Hid (RowA w3 g ys) := HRw.out.keeps hk3 (HnZ.out _ (by omega))
        have HKw3 : Hid (Keeps Z w w3) := HKr.out.trans hk3 (fun _ _ e => e)
        have hlt3 := rowT_lt HR3.out
        have hz3 := HKw3.out.size
        clear HCl hm3 hk3 y0
        by_cases hw : why = 0
        · subst hw
          have hz8 : IntKind.u8.wrap (z : Int) = ((z % 256 : Nat) : Int) := by rw [IntKind.wrap_u8]; omega
          have hz9 : z % 256 < 256 := Nat.mod_lt _ (by decide)
          generalize z % 256 = zb at hz8 hz9
          obtain ⟨c0, hc0⟩ : ∃ c0, zs[q]'(by rw [HR.out.2.1]; exact q8n) = c0 := ⟨_, rfl⟩
          have u0 := rowT_cell (rowT_below HR3.out ((Below.refl _ _).alloc (Nat.le_refl _) (Obj.cells #[.int .i64 0, .int .u64 x] 27))) q (by rw [HR.out.2.1]; exact q8n)
          have u1 := rowT_thawed (rowT_below HR3.out ((Below.refl _ _).alloc (Nat.le_refl _) (Obj.cells #[.int .i64 0, .int .u64 x] 27))) q
          rw [hc0] at u0
          clear hc0
          go_wp2_with fail
          go_roundw
          case rel =>
            have hk3 : Keeps (fun j => j = gb) w3 (w3.setCell ⟨gb, q, none⟩ (.int .u8 (zb : Int))) := Keeps.setCell _ _ _ _
            have hb4 : Below (w3.setCell ⟨gb, q, none⟩ (.int .u8 (zb : Int))).heap.size (w3.setCell ⟨gb, q, none⟩ (.int .u8 (zb : Int))) ((w3.setCell ⟨gb, q, none⟩ (.int .u8 (zb : Int))).alloc (Obj.cells #[.int .i64 0, .int .u64 x] 27)) := (Below.refl _ _).alloc (Nat.le_refl _) _
            have t1 := (HX3.out.keeps hk3 (show ¬ (w.heap.size = gb) by omega)).below hb4
            have t2 := (HKw3.out.trans hk3 (fun i hi e => absurd (show i = gb from e) (by omega))).trans (Keeps.of_below (S := fun _ => False) hb4) (fun _ _ h => h.elim)
            have t3 := (HRw3.out.keeps hk3 (show ¬ (g = gb) by omega)).below hb4
            have t4 := rowT_below (rowT_set HR3.out q zb) hb4
            refine ⟨q + 1, zs.set q zb, by omega, by go_num, t3, ⟨t4, by rw [List.length_set]; exact HR.out.2.1, fun y hy => ?_⟩, t1, HAb.out _ _ _ (HAb.out _ _ _ HM3.out (hk3.below (by omega) (fun i _ e => by omega))) (hb4.mono (by simp; omega)), t2⟩
            rcases List.mem_or_eq_of_mem_set hy with h | rfl
            · exact HR.out.2.2 y h
            · exact hz9
          case measure => simp [intOf]; omega
        · have hwb : (why == 0) = false := by simpa using hw
          have HB4 : Hid (Below w3.heap.size w3 (w3.alloc (Obj.cells #[.int .i64 why, .int .u64 x] 27))) := (Below.refl _ _).alloc (Nat.le_refl _) _
          have HSt := Lib.hid (stray_any (v := v) (i := q) (w3.alloc (Obj.cells #[.int .i64 why, .int .u64 x] 27)) (by omega))
          go_wp2_with fail
          refine HSt.out.mono ?_
          rintro e w5 ⟨rfl, hb5⟩
          have HB5 : Hid (Below w3.heap.size w3 w5) := HB4.out.trans (hb5.mono HB4.out.size)
          have HX5 : Hid (BoxF w5 w.heap.size 0 0) := HX3.out.below HB5.out
          obtain ⟨x0, x1, f0, f1⟩ := HX5.out.cells
          clear hb5 HSt
          unfold FaultV
          generalize vv v q = y at *
          go_wp2_with fail
          obtain ⟨d0, d1, _⟩ := (HX5.out.set 30 y).cells
          refine bodyPost_ret (v := .tuple #[.int .u64 ((0 : Nat) : Int), .agg #[.int .i64 30, .int .u64 (y : Int)]]) (by simp [results, Try.results15, go_sem, d0, d1]) rfl ?_
          have hk2 := Keeps.two w5 w.heap.size (.int .i64 30) (.int .u64 (y : Int))
          have hB5z := HB5.out.size
          exact ⟨⟨0, 30, y, rfl⟩, HE.out.mono _ _ _ (HAb.out _ _ _ (HAb.out _ _ _ HM3.out (HB5.out.mono (by omega))) (hk2.below (by omega) (fun i _ e => by omega))) (by omega), (HKw3.out.trans (Keeps.of_below (S := fun _ => False) HB5.out) (fun _ _ h => h.elim)).trans hk2 (fun i hi e => absurd e (by omega))⟩
      · obtain rfl : q = kk := by omega
        have HGt := Lib.hid (get_u64_yes (rowT_sl HR.out.1 HR.out.2.1 HR.out.2.2) (Nat.le_of_eq HR.out.2.1.symm))
        generalize Pl.num 8 zs = N at HGt
        obtain ⟨x0, x1, f0, f1⟩ := HXr.out.cells
        go_wp2_with (first | (go_at_call 31; refine HGt.out.mono ?_; rintro e w' ⟨rfl, hw⟩; have hw := hw.symm; subst hw))
        obtain ⟨d0, d1, _⟩ := (HXr.out.set 0 0).cells
        refine bodyPost_ret (v := .tuple #[.int .u64 (N : Int), .agg #[.int .i64 0, .int .u64 0]]) (by simp [results, Try.results15, go_sem, d0, d1]) rfl ?_
        have hk2 := Keeps.two wr w.heap.size (.int .i64 0) (.int .u64 0)
        exact ⟨⟨N, 0, 0, rfl⟩, HE.out.mono _ _ _ (HAb.out _ _ _ HMr.out (hk2.below (by omega) (fun i _ e => by omega))) (by omega), HKr.out.trans hk2 (fun i hi e => absurd e (by omega))⟩
end Go.Proofs.Ytehedllcdpjebaa
/- walk over any memory: Load, Fetch, Store end. Own work. -/
namespace Go.Proofs.Ytehedllcdpjebaa
open Go.RowKit Go.Maps Go.Proofs.Ytehedllcdpjebaa.Sp Wk
set_option maxRecDepth 100000 in
set_option maxHeartbeats 2000000 in
theorem load_g {T : TypeId} {u : Value} {G : Nat → World → Prop} {Z : Nat → Prop} {N0 Q fp fl fs : Nat} {LkR : Nat → Int → Ent × Int → Prop} (E : GEnv (.iface T u) G Z N0 Q LkR) (A : GAcc T u G Z N0 Q fp fl fs) {w : World} {n t v : Nat} {k : Int} (h : G n w) (hN : N0 ≤ w.heap.size) (hQ : n + 64 ≤ Q) (ht : t ≤ 18446744073709551615) :
    Calls Try.prog 7 #[.iface T u, .int .u64 (t : Int), .int .u64 (v : Int), .int .i64 k] w fun e w' => (∃ (z : Nat) (why x : Int), e = .returned (.tuple #[.int .u64 (z : Int), .agg #[.int .i64 why, .int .u64 x]])) ∧ Hid (G (n + 64) w') ∧ Hid (Keeps Z w w') := by
  have HE := Lib.hid E
  have HN := Lib.hid hN
  have HT := Lib.hid (take_g (w := w.alloc (Obj.cells #[.int .i64 0, .int .u64 0] 27)) (v := v) (k := k) (acc := 1) E A (E.abides _ _ _ h ((Below.refl _ _).alloc hN _)) (by simp; omega) (by omega) ht)
  clear h hN hQ E A
  go_enter Try.func7, Try.ntmps7
  go_wp2_with fail
  refine HT.out.mono ?_
  rintro e w1 ⟨⟨z, why, x, rfl⟩, HM1, HK1⟩
  have hz1 := HK1.out.size
  simp only [World.size_alloc] at hz1
  have hNN := HN.out
  have HX1 : Hid (BoxF w1 w.heap.size 0 0) := (BoxF.new w 0 0).keeps HK1.out (fun hz => by have := HE.out.zlt _ hz; omega)
  obtain ⟨x0, x1, f0, f1⟩ := HX1.out.cells
  clear HT
  go_wp2_with fail
  obtain ⟨d0, d1, _⟩ := (HX1.out.set why x).cells
  refine bodyPost_ret (v := .tuple #[.int .u64 (z : Int), .agg #[.int .i64 why, .int .u64 x]]) (by simp [results, Try.results7, go_sem, d0, d1]) rfl ?_
  have hk2 := Keeps.two w1 w.heap.size (.int .i64 why) (.int .u64 x)
  have hk1 : Keeps Z w w1 := (Keeps.alloc (S := Z) w _).trans HK1.out (fun _ _ e => e)
  exact ⟨⟨z, why, x, rfl⟩, HE.out.abides _ _ _ HM1.out (hk2.below (by omega) (fun i _ e => by omega)), hk1.trans hk2 (fun i hi e => absurd e (by omega))⟩
set_option maxRecDepth 100000 in
set_option maxHeartbeats 2000000 in
theorem fetch_g {T : TypeId} {u : Value} {G : Nat → World → Prop} {Z : Nat → Prop} {N0 Q fp fl fs : Nat} {LkR : Nat → Int → Ent × Int → Prop} (E : GEnv (.iface T u) G Z N0 Q LkR) (A : GAcc T u G Z N0 Q fp fl fs) {w : World} {n t v : Nat} {k : Int} (h : G n w) (hN : N0 ≤ w.heap.size) (hQ : n + 64 ≤ Q) (ht : t ≤ 18446744073709551615) :
    Calls Try.prog 10 #[.iface T u, .int .u64 (t : Int), .int .u64 (v : Int), .int .i64 k] w fun e w' => (∃ (z : Nat) (why x : Int), e = .returned (.tuple #[.int .u64 (z : Int), .agg #[.int .i64 why, .int .u64 x]])) ∧ Hid (G (n + 64) w') ∧ Hid (Keeps Z w w') := by
  have HE := Lib.hid E
  have HN := Lib.hid hN
  have HT := Lib.hid (take_g (w := w.alloc (Obj.cells #[.int .i64 0, .int .u64 0] 27)) (v := v) (k := k) (acc := 3) E A (E.abides _ _ _ h ((Below.refl _ _).alloc hN _)) (by simp; omega) (by omega) ht)
  clear h hN hQ E A
  go_enter Try.func10, Try.ntmps10
  go_wp2_with fail
  refine HT.out.mono ?_
  rintro e w1 ⟨⟨z, why, x, rfl⟩, HM1, HK1⟩
  have hz1 := HK1.out.size
  simp only [World.size_alloc] at hz1
  have hNN := HN.out
  have HX1 : Hid (BoxF w1 w.heap.size 0 0) := (BoxF.new w 0 0).keeps HK1.out (fun hz => by have := HE.out.zlt _ hz; omega)
  obtain ⟨x0, x1, f0, f1⟩ := HX1.out.cells
  clear HT
  go_wp2_with fail
  obtain ⟨d0, d1, _⟩ := (HX1.out.set why x).cells
  refine bodyPost_ret (v := .tuple #[.int .u64 (z : Int), .agg #[.int .i64 why, .int .u64 x]]) (by simp [results, Try.results10, go_sem, d0, d1]) rfl ?_
  have hk2 := Keeps.two w1 w.heap.size (.int .i64 why) (.int .u64 x)
  have hk1 : Keeps Z w w1 := (Keeps.alloc (S := Z) w _).trans HK1.out (fun _ _ e => e)
  exact ⟨⟨z, why, x, rfl⟩, HE.out.abides _ _ _ HM1.out (hk2.below (by omega) (fun i _ e => by omega)), hk1.trans hk2 (fun i hi e => absurd e (by omega))⟩
end Go.Proofs.Ytehedllcdpjebaa
/- walk over any memory: Store ends. Own work. -/
namespace Go.Proofs.Ytehedllcdpjebaa
open Go.RowKit Go.Maps Go.Proofs.Ytehedllcdpjebaa.Sp Wk
/-- where Store's loop stands -/
structure StE (G : Nat → World → Prop) (Z : Nat → Prop) (w : World) (n g gp cp bs val : Nat) (ys : List Nat) (q : Nat) (wr : World) : Prop where
  row : RowA wr g ys
  own : Own wr bs (.slice (some ⟨gp, 0, none⟩) 8 cp) (Pl.le 8 val)
  box : BoxF wr w.heap.size 0 0
  kept : Keeps Z w wr
  mem : G (n + 32 + q) wr
  big : gp < wr.heap.size
theorem StE.below {G : Nat → World → Prop} {Z : Nat → Prop} {N0 : Nat} {w : World} {n g gp cp bs val : Nat} {ys : List Nat} {q : Nat} {wr wr' : World} (hab : ∀ m W W', G m W → Below N0 W W' → G m W') (hN : N0 ≤ w.heap.size) (h : StE G Z w n g gp cp bs val ys q wr) (hb : Below wr.heap.size wr wr') : StE G Z w n g gp cp bs val ys q wr' :=
  ⟨h.row.below hb, h.own.below hb, h.box.below hb, h.kept.trans (Keeps.of_below (S := fun _ => False) hb) (fun _ _ h => h.elim), hab _ _ _ h.mem (hb.mono (Nat.le_trans hN h.kept.size)), Nat.lt_of_lt_of_le h.big hb.size⟩
theorem StE.keeps {G : Nat → World → Prop} {Z : Nat → Prop} {N0 : Nat} {w : World} {n g gp cp bs val : Nat} {ys : List Nat} {q b : Nat} {wr wr' : World} (hab : ∀ m W W', G m W → Below N0 W W' → G m W') (hN : N0 ≤ w.heap.size) (h : StE G Z w n g gp cp bs val ys q wr) (hk : Keeps (fun j => j = b) wr wr') (h1 : b ≠ g) (h2 : b ≠ gp) (h3 : w.heap.size < b) : StE G Z w n g gp cp bs val ys q wr' :=
  ⟨h.row.keeps hk (fun e => h1 e.symm), h.own.keeps hk (fun k e hk' => by cases e; exact h2 hk'.symm), h.box.keeps hk (by omega), h.kept.trans hk (fun i hi e => absurd (show i = b from e) (by omega)), hab _ _ _ h.mem (hk.below (Nat.le_trans hN h.kept.size) (fun i _ e => by omega)), Nat.lt_of_lt_of_le h.big hk.size⟩
set_option maxRecDepth 100000 in
set_option maxHeartbeats 8000000 in
theorem store_g {T : TypeId} {u : Value} {G : Nat → World → Prop} {Z : Nat → Prop} {N0 Q fp fl fs : Nat} {LkR : Nat → Int → Ent × Int → Prop} (E : GEnv (.iface T u) G Z N0 Q LkR) (A : GAcc T u G Z N0 Q fp fl fs) {w : World} {n t v val : Nat} {k : Int} (h : G n w) (hN : N0 ≤ w.heap.size) (hQ : n + 64 ≤ Q) (ht : t ≤ 18446744073709551615) (hval : val ≤ 18446744073709551615) :
    Calls Try.prog 8 #[.iface T u, .int .u64 (t : Int), .int .u64 (v : Int), .int .i64 k, .int .u64 (val : Int)] w fun e w' => (∃ (why x : Int), e = .returned (.agg #[.int .i64 why, .int .u64 x])) ∧ Hid (G (n + 64) w') ∧ Hid (Keeps Z w w') := by
  have HE := Lib.hid E
  have HN := Lib.hid hN
  have HQ := Lib.hid hQ
  have HRe := Lib.hid (reached_e (w := w.alloc (Obj.cells #[.int .i64 0, .int .u64 0] 27)) (v := v) (k := k) (acc := 2) E A (E.abides _ _ _ h ((Below.refl _ _).alloc hN _)) (by simp; omega) (by omega) ht)
  have HSo := Lib.hid A.store
  have hme := A.ms
  have hep := A.es
  have hna := A.ns
  have HX0 : Hid (BoxF (w.alloc (Obj.cells #[.int .i64 0, .int .u64 0] 27)) w.heap.size 0 0) := BoxF.new w 0 0
  have HnZ : Hid (∀ j, w.heap.size ≤ j → ¬ Z j) := fun j hj hz => by have := E.zlt j hz; omega
  have HAb : Hid (∀ m W W', G m W → Below N0 W W' → G m W') := E.abides
  clear h hN hQ E A
  go_enter Try.func8, Try.ntmps8
  go_wp2_with fail
  refine HRe.out.mono ?_
  rintro e w1 ⟨⟨kk, hk8, hP⟩, HM1, HK1⟩
  have HX1 : Hid (BoxF w1 w.heap.size 0 0) := HX0.out.keeps HK1.out (HnZ.out _ (Nat.le_refl _))
  have HKw1 : Hid (Keeps Z w w1) := (Keeps.alloc (S := Z) w _).trans HK1.out (fun _ _ e => e)
  have hlt1 := HX1.out.lt
  have hNw := HN.out
  clear HRe HX0 HK1
  rcases hP with ⟨why, x, h0, rfl⟩ | ⟨g, ys, rfl, hg, hrow, hyl, hyb⟩
  · have h0e : (why == 0) = false := by simpa using h0
    obtain ⟨W3, hW3⟩ : ∃ W3, w1.alloc (Obj.cells #[.int .i64 why, .int .u64 x] 27) = W3 := ⟨_, rfl⟩
    have HF3 : Hid (BoxF W3 w1.heap.size why x) := hW3 ▸ BoxF.new w1 why x
    have HX3 : Hid (BoxF W3 w.heap.size 0 0) := hW3 ▸ HX1.out.below ((Below.refl _ _).alloc (Nat.le_refl _) _)
    have HB3 : Hid (Below w1.heap.size w1 W3) := hW3 ▸ (Below.refl _ _).alloc (Nat.le_refl _) _
    have hne : w.heap.size ≠ w1.heap.size := by omega
    obtain ⟨x0, x1, f0, f1⟩ := HX3.out.cells
    obtain ⟨y0, y1, _, _⟩ := HF3.out.cells
    go_wp2_with fail
    clear hW3
    obtain ⟨d0, d1, _⟩ := (HX3.out.set why x).cells
    refine bodyPost_ret (v := .agg #[.int .i64 why, .int .u64 x]) (by simp [results, Try.results8, go_sem, d0, d1]) rfl ?_
    have hk2 := Keeps.two W3 w.heap.size (.int .i64 why) (.int .u64 x)
    have hB3z := HB3.out.size
    exact ⟨⟨why, x, rfl⟩, HE.out.mono _ _ _ (HAb.out _ _ _ (HAb.out _ _ _ HM1.out (HB3.out.mono (by omega))) (hk2.below (by omega) (fun i _ e => by omega))) (by omega), (HKw1.out.trans (Keeps.of_below (S := fun _ => False) HB3.out) (fun _ _ h => h.elim)).trans hk2 (fun i hi e => absurd e (by omega))⟩
  · have HRw : Hid (RowA w1 g ys) := hrow
    have HYs : Hid (ys.length = kk ∧ ∀ y ∈ ys, y ≤ 18446744073709551615) := ⟨hyl, hyb⟩
    have hgl : w.heap.size < g ∧ g < w1.heap.size := ⟨by simp at hg; omega, hrow.lt⟩
    obtain ⟨hg1, hg2⟩ := hgl
    have HPut := Lib.hid (put_nil (n := val) (w1.alloc (Obj.cells #[.int .i64 0, .int .u64 0] 27)) hval)
    clear hrow hg hyl hyb
    go_wp2_with fail
    refine HPut.out.mono ?_
    rintro e w2 ⟨vp, rfl, hown, hb2⟩
    obtain ⟨gp, cp, hvp, hgp, hgp2, hcp, hcm⟩ := hown.form (by rw [Pl.le_length]; omega)
    rw [Pl.le_length] at hvp hcp
    subst hvp
    have HB2 : Hid (Below w1.heap.size w1 w2) := ((Below.refl _ _).alloc (Nat.le_refl _) _).trans (hb2.mono (by simp))
    have hgp1 : w1.heap.size < gp := by simp at hgp; omega
    have HSt0 : Hid (StE G Z w n g gp cp (w1.alloc (Obj.cells #[.int .i64 0, .int .u64 0] 27)).heap.size val ys 0 w2) := ⟨HRw.out.below HB2.out, hown, HX1.out.below HB2.out, HKw1.out.trans (Keeps.of_below (S := fun _ => False) HB2.out) (fun _ _ h => h.elim), HAb.out _ _ _ HM1.out (HB2.out.mono (by omega)), hgp2⟩
    have hwd := HB2.out.size
    generalize hbs : (w1.alloc (Obj.cells #[.int .i64 0, .int .u64 0] 27)).heap.size = bs at *
    clear hbs hown hb2 hgp HPut HX1 HRw HM1 HKw1
    go_wp2_with fail
    go_loopw [33] (fun iv wr => ∃ q : Nat, q ≤ kk ∧ iv = .int .i64 (q : Int) ∧ Hid (StE G Z w n g gp cp bs val ys q wr)) (fun iv _ => kk - (intOf iv).toNat)
    case atStart => exact ⟨0, Nat.zero_le _, rfl, HSt0⟩
    case round =>
      clear HSt0
      obtain ⟨q, hq, rfl, HS⟩ := hrel
      have hKz := HS.out.kept.size
      have hbig := HS.out.big
      by_cases hlt : q < kk
      · have hlen : q < ys.length := by rw [HYs.out.1]; exact hlt
        have y0 := HS.out.row.cell q hlen
        have hy9 := HYs.out.2 _ (List.getElem_mem hlen)
        have z0 := HS.out.own.cell q (by rw [Pl.le_length]; omega)
        have hz : (Pl.le 8 val).getD q 0 < 256 := by
          rw [List.getD_eq_getElem?_getD, List.getElem?_eq_getElem (by rw [Pl.le_length]; omega)]
          exact Pl.le_small 8 val _ (List.getElem_mem _)
        have HZc : Hid (∀ W, StE G Z w n g gp cp bs val ys (q + 1) W → W.cell? ⟨gp, q, none⟩ = some (.int .u8 (((Pl.le 8 val).getD q 0 : Nat) : Int))) := fun W hW => hW.own.cell q (by rw [Pl.le_length]; omega)
        generalize ys[q] = r1 at *
        generalize (Pl.le 8 val).getD q 0 = z at *
        have HCl : Hid (∀ W, Below wr.heap.size wr W → Calls Try.prog fs #[u, .int .u64 (r1 : Int), .int .i64 1, .int .u64 (z : Int)] W fun e w3 => ∃ (why x : Int), e = .returned (.agg #[.int .i64 why, .int .u64 x]) ∧ w3.cell? ⟨gp, q, none⟩ = some (.int .u8 ((z : Nat) : Int)) ∧ Hid (StE G Z w n g gp cp bs val ys (q + 1) w3) ∧ Hid (∀ b x y, w.heap.size ≤ b → BoxF W b x y → BoxF w3 b x y) ∧ Hid (W.heap.size ≤ w3.heap.size)) := fun W hW => by
          have hs := HS.out.below HAb.out hNw hW
          refine (HSo.out (n + 32 + q) W r1 z hy9 (by have := hs.kept.size; omega) (by have := HQ.out; omega) hs.mem).mono ?_
          rintro e w3 ⟨why, x, rfl, hm3, hk3⟩
          have hs3 : StE G Z w n g gp cp bs val ys (q + 1) w3 := ⟨hs.row.keeps hk3 (HnZ.out _ (by omega)), hs.own.keeps hk3 (fun k e => by cases e; exact HnZ.out gp (by omega)), hs.box.keeps hk3 (HnZ.out _ (Nat.le_refl _)), hs.kept.trans hk3 (fun _ _ e => e), hm3, Nat.lt_of_lt_of_le hs.big hk3.size⟩
          exact ⟨why, x, rfl, HZc.out _ hs3, hs3, fun b x y hb hbx => hbx.keeps hk3 (HnZ.out _ hb), hk3.size⟩
        have qi : (q : Int) < (kk : Int) := by omega
        have q8 : (q : Int) < 8 := by omega
        have q8n : q < 8 := by omega
        have HBd : Hid (Below wr.heap.size wr wr.drew) := (Below.refl _ _).drew
        have hzw : IntKind.u64.wrap (z : Int) = (z : Int) := by rw [IntKind.wrap_u64]; omega
        go_wp2_with fail
        have hnew : gp ≠ wr.heap.size := by omega
        go_region_held3 (fun w' => w'.cell? ⟨gp, q, none⟩ = some (.int .u8 ((z : Nat) : Int))) (first | exact (U64.set_other hnew).trans ((U64.set_other hnew).trans z3) | go_keep) (first | (refine (HCl.out _ HBd.out).mono ?_; rintro e w3 ⟨why, x, rfl, z3, HS3, HZ3, HY3⟩) | (refine (HCl.out _ (HBd.out.alloc HBd.out.size _)).mono ?_; rintro e w3 ⟨why, x, rfl, z3, HS3, HZ3, HY3⟩; obtain ⟨k0, k1, k2, k3⟩ := (HZ3.out wr.heap.size 0 0 (by omega) (BoxF.new wr.drew 0 0)).cells))
        · obtain ⟨W5, hW5⟩ : ∃ W5, w3.alloc (Obj.cells #[.int .i64 why, .int .u64 x] 27) = W5 := ⟨_, rfl⟩
          have HF5 : Hid (BoxF W5 w3.heap.size why x) := hW5 ▸ BoxF.new w3 why x
          have HS5 : Hid (StE G Z w n g gp cp bs val ys (q + 1) W5) := hW5 ▸ HS3.out.below HAb.out hNw ((Below.refl _ _).alloc (Nat.le_refl _) _)
          rw [hW5]
          clear hW5
          obtain ⟨u0, u1, _, _⟩ := HF5.out.cells
          have hz5 := HS5.out.kept.size
          by_cases hw : why = 0
          · subst hw
            go_wp2_with fail
            go_roundw
            case rel => exact ⟨q + 1, by omega, by go_num, HS5⟩
            case measure => simp [intOf]; omega
          · have hwb : (why == 0) = false := by simpa using hw
            have HSt := Lib.hid (stray_any (v := v) (i := q) W5 (by omega))
            go_wp2_with fail
            refine HSt.out.mono ?_
            rintro e w5 ⟨rfl, hb5⟩
            have HB5 := Lib.hid hb5
            have HX5 : Hid (BoxF w5 w.heap.size 0 0) := HS5.out.box.below hb5
            obtain ⟨x0, x1, f0, f1⟩ := HX5.out.cells
            clear hb5 HSt
            unfold FaultV
            generalize vv v q = y at *
            go_wp2_with fail
            obtain ⟨d0, d1, _⟩ := (HX5.out.set 30 y).cells
            refine bodyPost_ret (v := .agg #[.int .i64 30, .int .u64 (y : Int)]) (by simp [results, Try.results8, go_sem, d0, d1]) rfl ?_
            have hk2 := Keeps.two w5 w.heap.size (.int .i64 30) (.int .u64 (y : Int))
            have hB5z := HB5.out.size
            exact ⟨⟨30, y, rfl⟩, HE.out.mono _ _ _ (HAb.out _ _ _ (HAb.out _ _ _ HS5.out.mem (HB5.out.mono (by omega))) (hk2.below (by omega) (fun i _ e => by omega))) (by omega), (HS5.out.kept.trans (Keeps.of_below (S := fun _ => False) HB5.out) (fun _ _ h => h.elim)).trans hk2 (fun i hi e => absurd e (by omega))⟩
        all_goals (
          obtain ⟨W5, hW5⟩ : ∃ W5, (w3.setCell ⟨wr.heap.size, 0, none⟩ (.int .i64 why)).setCell ⟨wr.heap.size, 1, none⟩ (.int .u64 x) = W5 := ⟨_, rfl⟩
          have HF5 : Hid (BoxF W5 wr.heap.size why x) := hW5 ▸ (HZ3.out wr.heap.size 0 0 (by omega) (BoxF.new wr.drew 0 0)).set why x
          have HS5 : Hid (StE G Z w n g gp cp bs val ys (q + 1) W5) := hW5 ▸ HS3.out.keeps HAb.out hNw (Keeps.two w3 wr.heap.size (.int .i64 why) (.int .u64 x)) (by omega) (by omega) (by omega)
          rw [hW5]
          clear hW5 k0 k1 k2 k3
          obtain ⟨u0, u1, _, _⟩ := HF5.out.cells
          have hz5 := HS5.out.kept.size
          by_cases hw : why = 0
          · subst hw
            go_wp2_with fail
            go_roundw
            case rel => exact ⟨q + 1, by omega, by go_num, HS5⟩
            case measure => simp [intOf]; omega
          · have hwb : (why == 0) = false := by simpa using hw
            have HSt := Lib.hid (stray_any (v := v) (i := q) W5 (by omega))
            go_wp2_with fail
            refine HSt.out.mono ?_
            rintro e w5 ⟨rfl, hb5⟩
            have HB5 := Lib.hid hb5
            have HX5 : Hid (BoxF w5 w.heap.size 0 0) := HS5.out.box.below hb5
            obtain ⟨x0, x1, f0, f1⟩ := HX5.out.cells
            clear hb5 HSt
            unfold FaultV
            generalize vv v q = y at *
            go_wp2_with fail
            obtain ⟨d0, d1, _⟩ := (HX5.out.set 30 y).cells
            refine bodyPost_ret (v := .agg #[.int .i64 30, .int .u64 (y : Int)]) (by simp [results, Try.results8, go_sem, d0, d1]) rfl ?_
            have hk2 := Keeps.two w5 w.heap.size (.int .i64 30) (.int .u64 (y : Int))
            have hB5z := HB5.out.size
            exact ⟨⟨30, y, rfl⟩, HE.out.mono _ _ _ (HAb.out _ _ _ (HAb.out _ _ _ HS5.out.mem (HB5.out.mono (by omega))) (hk2.below (by omega) (fun i _ e => by omega))) (by omega), (HS5.out.kept.trans (Keeps.of_below (S := fun _ => False) HB5.out) (fun _ _ h => h.elim)).trans hk2 (fun i hi e => absurd e (by omega))⟩)
      · obtain rfl : q = kk := by omega
        obtain ⟨x0, x1, f0, f1⟩ := HS.out.box.cells
        go_wp2_with fail
        obtain ⟨d0, d1, _⟩ := (HS.out.box.set 0 0).cells
        refine bodyPost_ret (v := .agg #[.int .i64 0, .int .u64 0]) (by simp [results, Try.results8, go_sem, d0, d1]) rfl ?_
        have hk2 := Keeps.two wr w.heap.size (.int .i64 0) (.int .u64 0)
        exact ⟨⟨0, 0, rfl⟩, HE.out.mono _ _ _ (HAb.out _ _ _ HS.out.mem (hk2.below (by omega) (fun i _ e => by omega))) (by omega), HS.out.kept.trans hk2 (fun i hi e => absurd e (by omega))⟩
end Go.Proofs.Ytehedllcdpjebaa
/- WalkEnds: the odd memory is one. Own work. -/
namespace Go.Proofs.Ytehedllcdpjebaa
open Go.RowKit Go.Maps Go.Proofs.Ytehedllcdpjebaa.Sp Wk
/-- the odd memory, at most so far -/
def OdG (xs : List Sp) (sv : Value) (Ba : Nat) (n : Nat) (W : World) : Prop := ∃ k, k ≤ n ∧ OdI xs sv Ba k W
theorem upO_le (xs : List Sp) (k : Nat) : upO xs k ≤ k + 1 := by
  unfold upO
  split <;> omega
theorem entB_frm (e : Nat) (l : Int) : (entB e l).1.1 ≤ 4294963200 := by
  unfold entB
  split
  · simp [no]
  · split
    · simp [no]
    · split
      · show fr _ ≤ _
        unfold fr
        omega
      · simp [no]
theorem entB_tab {e : Nat} {l : Int} (h0 : (entB e l).2 = 0) (h1 : (entB e l).1.2.1 = true) : l < 2 ∧ (entB e l).1.1 % 4096 = 0 := by
  unfold entB at h0 h1 ⊢
  split at h0
  · cases h0
  · rename_i hl
    split at h0
    · cases h0
    · rename_i h2
      split at h0
      · rename_i h3
        rw [if_neg hl, if_neg h2, if_pos h3] at h1
        rw [if_neg hl, if_neg h2, if_pos h3]
        simp only [says] at h1 ⊢
        refine ⟨?_, by unfold fr; omega⟩
        have h4 : ¬ l = 2 := by
          rintro rfl
          simp at h1
        omega
      · cases h0
theorem odd_env {xs : List Sp} {sv : Value} {Ba N0 : Nat} (hB : Ba < N0) (hP : ∀ a n c, sv = .slice (some a) n c → a.block < N0) : GEnv (MemO sv Ba) (OdG xs sv Ba) (fun j => j = Ba) N0 4611686018427387904 (fun _ l r => ∃ k, r = lookO xs k l) where
  abides := fun n A B ⟨k, hk, h⟩ hb => ⟨k, hk, h.keeps (Z := fun j => N0 ≤ j) ⟨hb.os, hb.tape, hb.output, hb.size, fun i _ hn => hb.block i (by omega)⟩ (by omega) (fun a m c e => by have := hP a m c e; omega)⟩
  mono := fun n k W ⟨j, hj, h⟩ hk => ⟨j, by omega, h⟩
  zlt := fun k e => by have e : k = Ba := e; omega
  look := fun n W t k l hW hn ht ⟨j, hj, h⟩ => (olook_any h (by omega) t k (by omega) l).mono fun e w' ⟨he, h1, h2⟩ => ⟨_, he, ⟨j, rfl⟩, ⟨_, by have := upO_le xs j; omega, h1⟩, h2⟩
  lfr := fun a l r ⟨k, e⟩ => by
    rw [e]
    unfold lookO
    split
    · exact entB_frm _ _
    · simp [no]
  ltab := fun a l r ⟨k, e⟩ h0 h1 => by
    subst e
    unfold lookO at h0 h1 ⊢
    split at h0
    · rename_i hc
      rw [if_pos hc] at h1
      rw [if_pos hc]
      exact entB_tab h0 h1
    · cases h0
theorem odd_acc {xs : List Sp} {sv : Value} {Ba N0 : Nat} : GAcc 41 (OddV sv Ba) (OdG xs sv Ba) (fun j => j = Ba) N0 4611686018427387904 109 108 110 where
  mp := fun _ => by unfold OddV; kernel_rfl
  ml := fun _ => by unfold OddV; kernel_rfl
  ms := fun _ => by unfold OddV; kernel_rfl
  ns := fun _ => by unfold OddV; kernel_rfl
  ep := enters_of Try.func109 (by kernel_rfl) rfl
  el := enters_of Try.func108 (by kernel_rfl) rfl
  es := enters_of Try.func110 (by kernel_rfl) rfl
  peek := fun n W a ha hW hn ⟨k, hk, h⟩ => (opeek_any h (by omega) (a : Int) 1).mono fun e w' ⟨he, h1, h2⟩ => by
    obtain ⟨f1, f2, f3, f4⟩ := fault_u64 (xs := xs) (k := k) h.fits
    refine ⟨(nxO xs k).1.toNat, (nxO xs k).2.1, (nxO xs k).2.2, ?_, by omega, ⟨_, by have := upO_le xs k; omega, h1⟩, h2⟩
    rw [he, Int.toNat_of_nonneg f1]
  load := fun n W a ha hW hn ⟨k, hk, h⟩ => (oload_any h (by omega) (a : Int) 1).mono fun e w' ⟨he, h1, h2⟩ => by
    obtain ⟨f1, f2, f3, f4⟩ := fault_u64 (xs := xs) (k := k) h.fits
    refine ⟨(nxO xs k).1.toNat, (nxO xs k).2.1, (nxO xs k).2.2, ?_, by omega, ⟨_, by have := upO_le xs k; omega, h1⟩, h2⟩
    rw [he, Int.toNat_of_nonneg f1]
  store := fun n W a v ha hW hn ⟨k, hk, h⟩ => (ostore_any h (by omega) (a : Int) 1 (v : Int)).mono fun e w' ⟨he, h1, h2⟩ => ⟨_, _, he, ⟨_, by have := upO_le xs k; omega, h1⟩, h2⟩
end Go.Proofs.Ytehedllcdpjebaa
