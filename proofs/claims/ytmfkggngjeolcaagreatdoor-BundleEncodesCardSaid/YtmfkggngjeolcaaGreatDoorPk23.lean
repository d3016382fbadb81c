import Derived.Test.YtmfkggngjeolcaaGreatDoorPk22
import Derived.Test.YtmfkggngjeolcaaGreatDoorPk11
import Derived.Laws.StructEq
/- Bundle: a part is opened. Own work. -/
namespace Go.Proofs.YtmfkggngjeolcaaGreatDoor
open Go.RowKit Bn Dc
set_option linter.unusedVariables false
set_option linter.unusedSimpArgs false
/-- the reader between two parts -/
def rdN (raw : Value) (im en : List Value) (pt : Int) (pv : Value) (sec ad why : Int) : List Value := raw :: (im ++ (en ++ [.int .i64 pt, pv, .int .i64 sec, .int .i64 ad, .int .i64 why]))
structure Dn (B kb : Nat) (raw : Value) (im en : List Value) (pt : Int) (pv : Value) (w0 : World) (why sec ad : Int) (w : World) : Prop where
  blk : w.heap[kb]? = some (.cells (rdN raw im en pt pv sec ad why).toArray 144 (0, 0))
  him : im.length = 12
  hen : en.length = 45
  hB : B ≤ kb
  fr : Fd B w0 w
/-- the entry of a part -/
def EnAt (en : List Value) (k f l : Nat) (c : Int) : Prop := en[5 * k]? = some (.int .i64 (k : Int)) ∧ en[5 * k + 1]? = some (.int .i64 0) ∧ en[5 * k + 2]? = some (.int .i64 (f : Int)) ∧ en[5 * k + 3]? = some (.int .i64 (l : Int)) ∧ en[5 * k + 4]? = some (.int .u32 c)
section
variable {B kb : Nat} {raw : Value} {im en : List Value} {pt : Int} {pv : Value} {w0 : World} {why sec ad : Int} {w w' : World}
theorem Dt.dn {q : Pt} {p g : Nat} {s : D} (h : Dt B kb raw im en q p g w0 s w) : Dn B kb raw im en (q.pt : Int) (.pointer (some ⟨p, 0, none⟩)) w0 s.why s.sec s.ad w := ⟨h.blk, h.him, h.hen, h.hB.1, h.fr⟩
theorem Dn.lt (h : Dn B kb raw im en pt pv w0 why sec ad w) : kb < w.heap.size := (Array.getElem?_eq_some_iff.1 h.blk).1
theorem Dn.cell (h : Dn B kb raw im en pt pv w0 why sec ad w) (i : Nat) : w.cell? ⟨kb, i, none⟩ = (rdN raw im en pt pv sec ad why)[i]? := by
  rw [cell_of_row _ _ i _ _ _ h.blk, List.getElem?_toArray]
theorem Dn.free (h : Dn B kb raw im en pt pv w0 why sec ad w) (i : Nat) : w.frozen? ⟨kb, i, none⟩ = false := by simp [World.frozen?, h.blk]
theorem Dn.ce (h : Dn B kb raw im en pt pv w0 why sec ad w) {i : Nat} (hi : i < 45) : w.cell? ⟨kb, 13 + i, none⟩ = en[i]? := by
  rw [h.cell, rdN, show 13 + i = (12 + i) + 1 by omega, List.getElem?_cons_succ, List.getElem?_append_right (by rw [h.him]; omega), h.him, show 12 + i - 12 = i by omega, List.getElem?_append_left (by rw [h.hen]; exact hi)]
theorem Dn.set (h : Dn B kb raw im en pt pv w0 why sec ad w) {i : Nat} {u : Value} {im' en' : List Value} {pt' : Int} {pv' : Value} {why' sec' ad' : Int} (he : (rdN raw im en pt pv sec ad why).set i u = rdN raw im' en' pt' pv' sec' ad' why') (h1 : im'.length = 12) (h2 : en'.length = 45) : Dn B kb raw im' en' pt' pv' w0 why' sec' ad' (w.setCell ⟨kb, i, none⟩ u) := by
  refine ⟨?_, h1, h2, h.hB, h.fr.trans (Keeps.mono (Keeps.setCell w kb i u) (fun k _ e => by subst e; exact ⟨h.hB, .inl ⟨_, h.blk⟩⟩))⟩
  rw [← he]
  simp [World.setCell, Array.getElem?_modify, h.blk]
theorem Dn.below (h : Dn B kb raw im en pt pv w0 why sec ad w) (hb : Below w.heap.size w w') : Dn B kb raw im en pt pv w0 why sec ad w' := ⟨(hb.block kb h.lt).trans h.blk, h.him, h.hen, h.hB, h.fr.trans (Fd.of_below hb)⟩
theorem Dn.drew (h : Dn B kb raw im en pt pv w0 why sec ad w) : Dn B kb raw im en pt pv w0 why sec ad w.drew := h.below ⟨rfl, rfl, rfl, Nat.le_refl _, fun _ _ => rfl⟩
theorem Dn.c5 (h : Dn B kb raw im en pt pv w0 why sec ad w) {k f l : Nat} {c : Int} (he : EnAt en k f l c) (hk : k ≤ 8) : w.cell? ⟨kb, 13 + k * 5, none⟩ = some (.int .i64 (k : Int)) ∧ w.cell? ⟨kb, 13 + k * 5 + 1, none⟩ = some (.int .i64 0) ∧ w.cell? ⟨kb, 13 + k * 5 + 2, none⟩ = some (.int .i64 (f : Int)) ∧ w.cell? ⟨kb, 13 + k * 5 + 3, none⟩ = some (.int .i64 (l : Int)) ∧ w.cell? ⟨kb, 13 + k * 5 + 4, none⟩ = some (.int .u32 c) := by
  obtain ⟨e0, e1, e2, e3, e4⟩ := he
  refine ⟨?_, ?_, ?_, ?_, ?_⟩
  · rw [show 13 + k * 5 = 13 + (5 * k) by omega]; exact (h.ce (by omega)).trans e0
  · rw [show 13 + k * 5 + 1 = 13 + (5 * k + 1) by omega]; exact (h.ce (by omega)).trans e1
  · rw [show 13 + k * 5 + 2 = 13 + (5 * k + 2) by omega]; exact (h.ce (by omega)).trans e2
  · rw [show 13 + k * 5 + 3 = 13 + (5 * k + 3) by omega]; exact (h.ce (by omega)).trans e3
  · rw [show 13 + k * 5 + 4 = 13 + (5 * k + 4) by omega]; exact (h.ce (by omega)).trans e4
end
end Go.Proofs.YtmfkggngjeolcaaGreatDoor
/- Bundle: structs and tables that are the same, or not (written by parts/gen_bneq.py). Own work. -/
namespace Go.Proofs.YtmfkggngjeolcaaGreatDoor
open Go.RowKit Bn
set_option linter.unusedVariables false
set_option linter.unusedSimpArgs false
theorem txt_eq (a b : ByteArray) : (a.toList = b.toList) = (a = b) := propext ⟨fun h => by
    rw [ByteArray.toList_eq, ByteArray.toList_eq] at h
    cases a
    cases b
    simp at h
    rw [h], fun h => by rw [h]⟩
theorem cast_eq (a b : Nat) : ((a : Int) = (b : Int)) = (a = b) := propext ⟨fun h => by omega, fun h => by rw [h]⟩
theorem rg_equal (x y : Rg) (w : World) : (Op.equalIn 10000 64 (.agg (rgE x).toArray) (.agg (rgE y).toArray)).run Tryz.prog w = .ok (decide (x.1 = y.1 ∧ x.2 = y.2)) w := by
  have u0 := Tryz.underlying22
  have a0 := Tryz.isAgg22
  have z0 := Tryz.sizeOf22
  have hS : Tryz.prog.underlying 64 = some (.struct (Tryz.prog.fieldsOf 64)) := by kernel_rfl
  have hp : Tryz.prog.stoodInHeld 64 = false := by kernel_rfl
  unfold rgE
  rw [show (10000 : Nat) = 9999 + 1 from rfl, run_equalIn_agg w 9999 64 _ _ hS hp]
  simp only [Program.fieldsOf, Tryz.underlying64]
  go_simp
  by_cases h0 : x.1 = y.1
  · skip
    by_cases h1 : x.2 = y.2
    · simp [cast_eq, txt_eq, h0, h1]
    · simp [cast_eq, txt_eq, h0, h1]
  · simp [cast_eq, txt_eq, h0]
theorem rg_guard : Tryz.prog.eqGuardType Tryz.prog.depth 64 = false := by kernel_rfl
theorem rg_neq (x y : Rg) (w : World) : (binOp .neq 64 (.agg (rgE x).toArray) (.agg (rgE y).toArray)).run Tryz.prog w = .ok (.bool (!decide (x.1 = y.1 ∧ x.2 = y.2))) w := by
  rw [run_neq_struct, rg_equal]
  rfl
theorem st_equal (x y : (Int × Int)) (w : World) : (Op.equalIn 10000 74 (.agg (stE x).toArray) (.agg (stE y).toArray)).run Tryz.prog w = .ok (decide (x.1 = y.1 ∧ x.2 = y.2)) w := by
  have u0 := Tryz.underlying3
  have a0 := Tryz.isAgg3
  have z0 := Tryz.sizeOf3
  have hS : Tryz.prog.underlying 74 = some (.struct (Tryz.prog.fieldsOf 74)) := by kernel_rfl
  have hp : Tryz.prog.stoodInHeld 74 = false := by kernel_rfl
  unfold stE
  rw [show (10000 : Nat) = 9999 + 1 from rfl, run_equalIn_agg w 9999 74 _ _ hS hp]
  simp only [Program.fieldsOf, Tryz.underlying74]
  go_simp
  by_cases h0 : x.1 = y.1
  · skip
    by_cases h1 : x.2 = y.2
    · simp [cast_eq, txt_eq, h0, h1]
    · simp [cast_eq, txt_eq, h0, h1]
  · simp [cast_eq, txt_eq, h0]
theorem st_guard : Tryz.prog.eqGuardType Tryz.prog.depth 74 = false := by kernel_rfl
theorem st_neq (x y : (Int × Int)) (w : World) : (binOp .neq 74 (.agg (stE x).toArray) (.agg (stE y).toArray)).run Tryz.prog w = .ok (.bool (!decide (x.1 = y.1 ∧ x.2 = y.2))) w := by
  rw [run_neq_struct, st_equal]
  rfl
theorem tn_equal (x y : Tn) (w : World) : (Op.equalIn 10000 66 (.agg (tnE x).toArray) (.agg (tnE y).toArray)).run Tryz.prog w = .ok (decide (x.cpu = y.cpu ∧ x.root = y.root ∧ x.st = y.st ∧ x.rule = y.rule ∧ x.to = y.to ∧ x.vec = y.vec)) w := by
  have u0 := Tryz.underlying3
  have a0 := Tryz.isAgg3
  have z0 := Tryz.sizeOf3
  have u1 := Tryz.underlying4
  have a1 := Tryz.isAgg4
  have z1 := Tryz.sizeOf4
  have hS : Tryz.prog.underlying 66 = some (.struct (Tryz.prog.fieldsOf 66)) := by kernel_rfl
  have hp : Tryz.prog.stoodInHeld 66 = false := by kernel_rfl
  unfold tnE
  rw [show (10000 : Nat) = 9999 + 1 from rfl, run_equalIn_agg w 9999 66 _ _ hS hp]
  simp only [Program.fieldsOf, Tryz.underlying66]
  go_simp
  by_cases h0 : x.cpu = y.cpu
  · skip
    by_cases h1 : x.root = y.root
    · skip
      by_cases h2 : x.st = y.st
      · skip
        by_cases h3 : x.rule = y.rule
        · skip
          by_cases h4 : x.to = y.to
          · skip
            by_cases h5 : x.vec = y.vec
            · simp [cast_eq, txt_eq, h0, h1, h2, h3, h4, h5]
            · simp [cast_eq, txt_eq, h0, h1, h2, h3, h4, h5]
          · simp [cast_eq, txt_eq, h0, h1, h2, h3, h4]
        · simp [cast_eq, txt_eq, h0, h1, h2, h3]
      · simp [cast_eq, txt_eq, h0, h1, h2]
    · simp [cast_eq, txt_eq, h0, h1]
  · simp [cast_eq, txt_eq, h0]
theorem tn_guard : Tryz.prog.eqGuardType Tryz.prog.depth 66 = false := by kernel_rfl
theorem tn_neq (x y : Tn) (w : World) : (binOp .neq 66 (.agg (tnE x).toArray) (.agg (tnE y).toArray)).run Tryz.prog w = .ok (.bool (!decide (x.cpu = y.cpu ∧ x.root = y.root ∧ x.st = y.st ∧ x.rule = y.rule ∧ x.to = y.to ∧ x.vec = y.vec))) w := by
  rw [run_neq_struct, tn_equal]
  rfl
theorem po_equal (x y : Int) (w : World) : (Op.equalIn 10000 68 (.agg (poE x).toArray) (.agg (poE y).toArray)).run Tryz.prog w = .ok (decide (x = y)) w := by
  have u0 := Tryz.underlying3
  have a0 := Tryz.isAgg3
  have z0 := Tryz.sizeOf3
  have hS : Tryz.prog.underlying 68 = some (.struct (Tryz.prog.fieldsOf 68)) := by kernel_rfl
  have hp : Tryz.prog.stoodInHeld 68 = false := by kernel_rfl
  unfold poE
  rw [show (10000 : Nat) = 9999 + 1 from rfl, run_equalIn_agg w 9999 68 _ _ hS hp]
  simp only [Program.fieldsOf, Tryz.underlying68]
  go_simp
  by_cases h0 : x = y
  · simp [cast_eq, txt_eq, h0]
  · simp [cast_eq, txt_eq, h0]
theorem po_guard : Tryz.prog.eqGuardType Tryz.prog.depth 68 = false := by kernel_rfl
theorem po_neq (x y : Int) (w : World) : (binOp .neq 68 (.agg (poE x).toArray) (.agg (poE y).toArray)).run Tryz.prog w = .ok (.bool (!decide (x = y))) w := by
  rw [run_neq_struct, po_equal]
  rfl
theorem lk_equal (x y : Lk) (w : World) : (Op.equalIn 10000 72 (.agg (lkE x).toArray) (.agg (lkE y).toArray)).run Tryz.prog w = .ok (decide (x.fr = y.fr ∧ x.to = y.to ∧ x.eff = y.eff ∧ x.vec = y.vec ∧ x.msk = y.msk)) w := by
  have u0 := Tryz.underlying3
  have a0 := Tryz.isAgg3
  have z0 := Tryz.sizeOf3
  have u1 := Tryz.underlying4
  have a1 := Tryz.isAgg4
  have z1 := Tryz.sizeOf4
  have hS : Tryz.prog.underlying 72 = some (.struct (Tryz.prog.fieldsOf 72)) := by kernel_rfl
  have hp : Tryz.prog.stoodInHeld 72 = false := by kernel_rfl
  unfold lkE
  rw [show (10000 : Nat) = 9999 + 1 from rfl, run_equalIn_agg w 9999 72 _ _ hS hp]
  simp only [Program.fieldsOf, Tryz.underlying72]
  go_simp
  by_cases h0 : x.fr = y.fr
  · skip
    by_cases h1 : x.to = y.to
    · skip
      by_cases h2 : x.eff = y.eff
      · skip
        by_cases h3 : x.vec = y.vec
        · skip
          by_cases h4 : x.msk = y.msk
          · simp [cast_eq, txt_eq, h0, h1, h2, h3, h4]
          · simp [cast_eq, txt_eq, h0, h1, h2, h3, h4]
        · simp [cast_eq, txt_eq, h0, h1, h2, h3]
      · simp [cast_eq, txt_eq, h0, h1, h2]
    · simp [cast_eq, txt_eq, h0, h1]
  · simp [cast_eq, txt_eq, h0]
theorem lk_guard : Tryz.prog.eqGuardType Tryz.prog.depth 72 = false := by kernel_rfl
theorem lk_neq (x y : Lk) (w : World) : (binOp .neq 72 (.agg (lkE x).toArray) (.agg (lkE y).toArray)).run Tryz.prog w = .ok (.bool (!decide (x.fr = y.fr ∧ x.to = y.to ∧ x.eff = y.eff ∧ x.vec = y.vec ∧ x.msk = y.msk))) w := by
  rw [run_neq_struct, lk_equal]
  rfl
theorem gd_equal (x y : Gd) (w : World) : (Op.equalIn 10000 70 (.agg (gdE x).toArray) (.agg (gdE y).toArray)).run Tryz.prog w = .ok (decide (x.ad = y.ad ∧ x.sz = y.sz ∧ x.fill = y.fill ∧ x.txt = y.txt)) w := by
  have u0 := Tryz.underlying22
  have a0 := Tryz.isAgg22
  have z0 := Tryz.sizeOf22
  have u1 := Tryz.underlying5
  have a1 := Tryz.isAgg5
  have z1 := Tryz.sizeOf5
  have u2 := Tryz.underlying9
  have a2 := Tryz.isAgg9
  have z2 := Tryz.sizeOf9
  have hS : Tryz.prog.underlying 70 = some (.struct (Tryz.prog.fieldsOf 70)) := by kernel_rfl
  have hp : Tryz.prog.stoodInHeld 70 = false := by kernel_rfl
  unfold gdE
  rw [show (10000 : Nat) = 9999 + 1 from rfl, run_equalIn_agg w 9999 70 _ _ hS hp]
  simp only [Program.fieldsOf, Tryz.underlying70]
  go_simp
  by_cases h0 : x.ad = y.ad
  · skip
    by_cases h1 : x.sz = y.sz
    · skip
      by_cases h2 : x.fill = y.fill
      · skip
        by_cases h3 : x.txt = y.txt
        · simp [cast_eq, txt_eq, h0, h1, h2, h3]
        · simp [cast_eq, txt_eq, h0, h1, h2, h3]
      · simp [cast_eq, txt_eq, h0, h1, h2]
    · simp [cast_eq, txt_eq, h0, h1]
  · simp [cast_eq, txt_eq, h0]
theorem gd_guard : Tryz.prog.eqGuardType Tryz.prog.depth 70 = false := by kernel_rfl
theorem gd_neq (x y : Gd) (w : World) : (binOp .neq 70 (.agg (gdE x).toArray) (.agg (gdE y).toArray)).run Tryz.prog w = .ok (.bool (!decide (x.ad = y.ad ∧ x.sz = y.sz ∧ x.fill = y.fill ∧ x.txt = y.txt))) w := by
  rw [run_neq_struct, gd_equal]
  rfl
theorem tab_equal2 (f g : Nat → Nat) (w : World) : (Op.equalIn 10000 80 (.agg (tabV f)) (.agg (tabV g))).run Tryz.prog w = .ok (decide (∀ j ∈ List.range 512, f j = g j)) w := by
  have hu : Tryz.prog.underlying 80 = some (.array 512 22) := by kernel_rfl
  have hb : Tryz.prog.underlying 22 = some (.int .u64) := by kernel_rfl
  have hs : (Tryz.prog.info? 22).isSome = true := by kernel_rfl
  obtain ⟨i, hi⟩ := Option.isSome_iff_exists.1 hs
  have hc : Tryz.prog.cellsOf 22 = 1 := by kernel_rfl
  rw [run_equalIn_array w 9999 (tabV f) (tabV g) hu hi, hc]
  have hl : ∀ j ∈ List.range 512, j < 512 := fun j hj => List.mem_range.1 hj
  generalize List.range 512 = l at hl ⊢
  induction l with
  | nil => simp [Op.eqItems]
  | cons j l ih =>
    have hj : j < 512 := hl j (by simp)
    have px : (part 22 (tabV f) (j * 1)).run Tryz.prog w = .ok (.int .u64 (f j : Int)) w := by
      have := tabV_get f hj
      simp [part, isAgg, run_underlying hb, this]
    have py : (part 22 (tabV g) (j * 1)).run Tryz.prog w = .ok (.int .u64 (g j : Int)) w := by
      have := tabV_get g hj
      simp [part, isAgg, run_underlying hb, this]
    have ih' := ih fun k hk => hl k (by simp [hk])
    by_cases h : f j = g j
    · have hbq : ((f j : Int) == (g j : Int)) = true := by simp [h]
      simp only [Op.eqItems, Sem.run_bind, px, py, run_equalIn_int w 9998 22 .u64 .u64 _ _ hb, Result.andThen_ok, hbq]
      simp [h] at ih' ⊢
      exact ih'
    · have hbq : ((f j : Int) == (g j : Int)) = false := by simp; omega
      simp only [Op.eqItems, Sem.run_bind, px, py, run_equalIn_int w 9998 22 .u64 .u64 _ _ hb, Result.andThen_ok, hbq]
      simp [h]
theorem tab_neq2 (f g : Nat → Nat) (w : World) : (binOp .neq 80 (.agg (tabV f)) (.agg (tabV g))).run Tryz.prog w = .ok (.bool (!decide (∀ j ∈ List.range 512, f j = g j))) w := by
  rw [run_neq_struct, tab_equal2]
  rfl
end Go.Proofs.YtmfkggngjeolcaaGreatDoor
/- Bundle: the directory (written by parts/gen_dcdir.py). Own work. -/
namespace Go.Proofs.YtmfkggngjeolcaaGreatDoor
open Go.RowKit Bn Dc
set_option linter.unusedVariables false
set_option linter.unusedSimpArgs false
namespace Dc
/-- where a part ends, as the directory has it -/
def endN (E : Nat → En) (N : Nat) : Nat → Nat
  | 0 => 160
  | k + 1 => if k = 7 then N else begN (k + 1) (endN E N k) + (E (k + 1)).l
def okD (E : Nat → En) (N : Nat) (k : Nat) : Bool := decide ((E k).a = k ∧ (E k).b = 0 ∧ (E k).f = begN k (endN E N (k - 1)) ∧ (k = 8 → (E k).f + (E k).l = N)) && decide (endN E N k ≤ N)
def dirS (E : Nat → En) (N : Nat) : Nat → D → D
  | 0, s => s
  | k + 1, s => askD (okD E N (k + 1)) 5 0 ((24 + 16 * k : Nat) : Int) (dirS E N k s)
theorem ask_why {b : Bool} {no sec ad : Int} {s : D} (h : s.why ≠ 0) : askD b no sec ad s = s := by unfold askD; rw [if_neg (fun e => h e.2)]
end Dc
structure Ei where
  a : Int
  b : Int
  f : Int
  l : Int
  c : Int
def eiE (x : Ei) : List Value := [.int .i64 x.a, .int .i64 x.b, .int .i64 x.f, .int .i64 x.l, .int .u32 x.c]
/-- the entries that were read -/
def EnR (en : List Value) (E : Nat → En) : Prop := ∀ k, 1 ≤ k → k ≤ 8 → en[5 * k]? = some (.int .i64 ((E k).a : Int)) ∧ en[5 * k + 1]? = some (.int .i64 ((E k).b : Int)) ∧ en[5 * k + 2]? = some (.int .i64 ((E k).f : Int)) ∧ en[5 * k + 3]? = some (.int .i64 ((E k).l : Int)) ∧ en[5 * k + 4]? = some (.int .u32 ((E k).c : Int))
def enSm (E : Nat → En) : Prop := ∀ k, (E k).a ≤ 4294967296 ∧ (E k).b ≤ 4294967296 ∧ (E k).f ≤ 4294967296 ∧ (E k).l ≤ 4294967296
section
variable {B kb : Nat} {raw : Value} {im en : List Value} {q : Pt} {p g : Nat} {w0 : World} {s : D} {w w' : World}
theorem Dt.c5 (h : Dt B kb raw im en q p g w0 s w) {E : Nat → En} (he : EnR en E) {k : Nat} (h1 : 1 ≤ k) (hk : k ≤ 8) : w.cell? ⟨kb, 13 + k * 5, none⟩ = some (.int .i64 ((E k).a : Int)) ∧ w.cell? ⟨kb, 13 + k * 5 + 1, none⟩ = some (.int .i64 ((E k).b : Int)) ∧ w.cell? ⟨kb, 13 + k * 5 + 2, none⟩ = some (.int .i64 ((E k).f : Int)) ∧ w.cell? ⟨kb, 13 + k * 5 + 3, none⟩ = some (.int .i64 ((E k).l : Int)) ∧ w.cell? ⟨kb, 13 + k * 5 + 4, none⟩ = some (.int .u32 ((E k).c : Int)) := by
  obtain ⟨e0, e1, e2, e3, e4⟩ := he k h1 hk
  refine ⟨?_, ?_, ?_, ?_, ?_⟩
  · rw [show 13 + k * 5 = 13 + (5 * k) by omega]; exact (h.dn.ce (by omega)).trans e0
  · rw [show 13 + k * 5 + 1 = 13 + (5 * k + 1) by omega]; exact (h.dn.ce (by omega)).trans e1
  · rw [show 13 + k * 5 + 2 = 13 + (5 * k + 2) by omega]; exact (h.dn.ce (by omega)).trans e2
  · rw [show 13 + k * 5 + 3 = 13 + (5 * k + 3) by omega]; exact (h.dn.ce (by omega)).trans e3
  · rw [show 13 + k * 5 + 4 = 13 + (5 * k + 4) by omega]; exact (h.dn.ce (by omega)).trans e4
theorem endN_le {E : Nat → En} (hE : enSm E) {N : Nat} (hN : N ≤ 140737488355328) : ∀ k, endN E N k ≤ 140737488355328 + k * 4294971392
  | 0 => by simp [endN]
  | k + 1 => by
    have h1 := endN_le hE hN k
    rw [endN]
    split
    · omega
    · have h2 := (beg_le (k + 1) (endN E N k)).1
      have h3 := (hE (k + 1)).2.2.2
      omega
end
end Go.Proofs.YtmfkggngjeolcaaGreatDoor
