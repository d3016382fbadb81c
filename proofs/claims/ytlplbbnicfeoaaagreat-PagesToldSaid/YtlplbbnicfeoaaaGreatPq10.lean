import Derived.Test.YtlplbbnicfeoaaaGreatPq09
import Derived.Test.YtlplbbnicfeoaaaGreatPq06
import Derived.Test.YtlplbbnicfeoaaaGreatPq05
import Derived.Test.YtlplbbnicfeoaaaGreatPq07
/- Pages: what rows say of an address: the document's At. Own work. -/
namespace Go.Proofs.YtlplbbnicfeoaaaGreat
open Go.RowKit Wk
set_option linter.unusedVariables false
/-- a row has an address -/
def HasA (x : L6) (a : Nat) : Prop := x.v ≤ a ∧ a < x.v + x.n.toNat * 4096
def lf0 : L6 := ⟨0, 0, 0, false, false, false⟩
def AtP (xs : List L6) (a : Nat) (w : World) (e : Ending) (w' : World) : Prop := Below w.heap.size w w' ∧ ((∃ x ∈ xs, HasA x a ∧ e = .returned (.tuple #[.int .u64 ((x.p + (a - x.v) : Nat) : Int), V6 x, .bool true])) ∨ ((∀ x ∈ xs, ¬ HasA x a) ∧ e = .returned (.tuple #[.int .u64 0, V6 lf0, .bool false])))
theorem none_all {xs : List L6} {a n : Nat} (hn : xs.length = n) (h : ∀ j (hj : j < xs.length), j < n → ¬ HasA xs[j] a) : ∀ x ∈ xs, ¬ HasA x a := by
  intro x hx
  obtain ⟨j, hj, rfl⟩ := List.getElem_of_mem hx
  exact h j hj (by omega)
/-- a leaf, written over another -/
def put6 (w : World) (g : Nat) (x : L6) : World := (((((w.setCell ⟨g, 0, none⟩ (.int .u64 (x.v : Int))).setCell ⟨g, 1, none⟩ (.int .u64 (x.p : Int))).setCell ⟨g, 2, none⟩ (.int .i64 x.n)).setCell ⟨g, 3, none⟩ (.bool x.big)).setCell ⟨g, 4, none⟩ (.bool x.wr)).setCell ⟨g, 5, none⟩ (.bool x.ex)
theorem LfAt.put {w : World} {g : Nat} {y : L6} (h : LfAt w g y) (x : L6) : LfAt (put6 w g x) g x := by
  have h' : w.heap[g]? = _ := h
  simp [LfAt, put6, World.setCell, Array.getElem?_modify, h']
theorem LfAt.drew {w : World} {g : Nat} {x : L6} (h : LfAt w g x) : LfAt w.drew g x := h
theorem put6_below {w0 w : World} {B g : Nat} (hb : Below B w0 w) (hg : B ≤ g) (x : L6) : Below B w0 (put6 w g x) := (((((hb.setCell hg _).setCell hg _).setCell hg _).setCell hg _).setCell hg _).setCell hg _
set_option maxRecDepth 100000 in
set_option maxHeartbeats 8000000 in
theorem rat_any {w : World} {v : Value} {xs : List L6} {a : Nat} (h : Lv w v xs) (hz : ∀ x ∈ xs, aloneF x = 0) (ha : a ≤ 18446744073709551615) : Calls Tryz.prog 18 #[v, .int .u64 (a : Int)] w (AtP xs a w) := by
  have HR := Lib.hid h
  obtain ⟨ao, cap, rfl, h1, h2, h3, _⟩ := h
  unfold maxLen at h2
  obtain ⟨n, hn⟩ : ∃ n, xs.length = n := ⟨_, rfl⟩
  have HN := Lib.hid hn
  have HZ : Hid (∀ x ∈ xs, aloneF x = 0) := hz
  rw [hn] at h1 ⊢
  have HB0 : Hid (Below w.heap.size w (w.alloc (.cells #[.int .u64 0, .int .u64 0, .int .i64 0, .bool false, .bool false, .bool false] 26))) := (Below.refl _ _).alloc (Nat.le_refl _) _
  have HL0 : Hid (LfAt (w.alloc (.cells #[.int .u64 0, .int .u64 0, .int .i64 0, .bool false, .bool false, .bool false] 26)) w.heap.size lf0) := heap_alloc_new w _
  clear hn h3 hz
  go_enter Tryz.func18, Tryz.ntmps18
  go_wp2_with fail
  go_loopw [7] (fun iv wr => ∃ (i : Nat), i ≤ n ∧ iv = .int .i64 (i : Int) ∧ Hid (LfAt wr w.heap.size lf0) ∧ Hid (∀ j (hj : j < xs.length), j < i → ¬ HasA xs[j] a) ∧ Hid (Below w.heap.size w wr)) (fun iv _ => n - (intOf iv).toNat)
  case atStart => exact ⟨0, by omega, rfl, HL0, Lib.hid (fun _ _ h => by omega), HB0⟩
  case round =>
    clear HB0 HL0
    obtain ⟨i, hi, rfl, HL, HE, HB⟩ := hrel
    obtain ⟨l0, l1, l2, l3, l4, l5⟩ := HL.out.cells
    have f0 := HL.out.free 0
    have f1 := HL.out.free 1
    have f2 := HL.out.free 2
    have f3 := HL.out.free 3
    have f4 := HL.out.free 4
    have f5 := HL.out.free 5
    by_cases hin : i < n
    · have hix : i < xs.length := by rw [HN.out]; exact hin
      have ji : (i : Int) < (n : Int) := by omega
      have hw1 : IntKind.i64.wrap ((i : Int) + 1) = ((i + 1 : Nat) : Int) := by rw [IntKind.wrap_i64]; omega
      obtain ⟨_, _, e', _, _, _, hc⟩ := HR.out.below HB.out
      simp only [Value.slice.injEq] at e'
      obtain ⟨rfl, e9, rfl⟩ := e'
      clear e9
      obtain ⟨b, of, rfl, c0, c1, c2, c3, c4, c5⟩ := hc i hix
      have hbX : b < w.heap.size := by
        obtain ⟨_, _, e', _, _, _, hc'⟩ := HR.out
        simp only [Value.slice.injEq] at e'
        obtain ⟨rfl, e9, rfl⟩ := e'
        obtain ⟨b', o', e8, d0, _⟩ := hc' i hix
        simp only [Option.some.injEq, Addr.mk.injEq] at e8
        obtain ⟨rfl, _⟩ := e8
        exact World.block_lt_of_cell? w _ d0
      have hn1 : b ≠ w.heap.size := by omega
      have hn2 : w.heap.size ≠ b := by omega
      have hxa := HZ.out xs[i] (List.getElem_mem _)
      have HMe : Hid (xs[i] ∈ xs) := List.getElem_mem _
      have HG : Hid (¬ HasA xs[i] a → ∀ j (hj : j < xs.length), j < i + 1 → ¬ HasA xs[j] a) := fun hno j hj hji => by
        by_cases e : j = i
        · subst e; exact hno
        · exact HE.out j hj (by omega)
      clear hc HE
      generalize xs[i] = x at *
      obtain ⟨z1, z2, z3, z4, z5, z6⟩ := aloneF_zero hxa
      clear hxa
      obtain ⟨xv, xp, xn, xb, xw, xe⟩ := x
      simp only at z1 z4 z5 c0 c1 c2 c3 c4 c5
      obtain ⟨m, rfl⟩ : ∃ m : Nat, xn = (m : Int) := ⟨xn.toNat, by omega⟩
      have z4 : xv + m * 4096 ≤ 549755813888 := z4
      have z5 : xp + m * 4096 ≤ 4294967296 := z5
      have HH : Hid (HasA ⟨xv, xp, (m : Int), xb, xw, xe⟩ a ↔ (xv ≤ a ∧ a < xv + m * 4096)) := Iff.rfl
      clear z1 z2 z3 z6
      by_cases hva : xv ≤ a
      · have jv : (xv : Int) ≤ (a : Int) := by omega
        obtain ⟨d, hd⟩ : ∃ d, a - xv = d := ⟨_, rfl⟩
        obtain ⟨S, hS⟩ : ∃ S, m * 4096 = S := ⟨_, rfl⟩
        have wd : IntKind.u64.wrap ((a : Int) - (xv : Int)) = (d : Int) := by rw [IntKind.wrap_u64]; omega
        have wm : IntKind.u64.wrap (m : Int) = (m : Int) := by rw [IntKind.wrap_u64]; omega
        have ws : IntKind.u64.wrap ((m : Int) * 4096) = (S : Int) := by rw [IntKind.wrap_u64]; omega
        by_cases hds : d < S
        · have jd : (d : Int) < (S : Int) := by omega
          have wp : IntKind.u64.wrap ((xp : Int) + (d : Int)) = ((xp + d : Nat) : Int) := by rw [IntKind.wrap_u64]; omega
          have HF : Hid (HasA ⟨xv, xp, (m : Int), xb, xw, xe⟩ a) := HH.out.2 (by omega)
          have HD := Lib.hid hd
          clear hd hS z4 z5 HG HH
          go_wp2_with fail
          go_region
          have HB1 : Hid (Below w.heap.size w wr.drew) := HB.out.drew
          have HL1 : Hid (LfAt wr.drew w.heap.size lf0) := HL.out
          go_wp2_with fail
          go_region
          all_goals
            go_wp2_with fail
            have HP : Hid (LfAt (put6 wr w.heap.size ⟨xv, xp, (m : Int), xb, xw, xe⟩).drew.drew w.heap.size ⟨xv, xp, (m : Int), xb, xw, xe⟩) := ((HL.out.put _).drew).drew
            have HQ : Hid (Below w.heap.size w (put6 wr w.heap.size ⟨xv, xp, (m : Int), xb, xw, xe⟩).drew.drew) := (put6_below HB.out (Nat.le_refl _) _).drew.drew
            refine (fun (h : bodyPost _ _ _ _ _ (put6 wr w.heap.size ⟨xv, xp, (m : Int), xb, xw, xe⟩).drew.drew) => h) ?_
            generalize (put6 wr w.heap.size ⟨xv, xp, (m : Int), xb, xw, xe⟩).drew.drew = W at *
            obtain ⟨d0, d1, d2, d3, d4, d5⟩ := HP.out.cells
            refine bodyPost_ret (v := .tuple #[.int .u64 ((xp : Int) + (d : Int)), V6 ⟨xv, xp, (m : Int), xb, xw, xe⟩, .bool true]) (by simp [results, Tryz.results18, go_sem, V6, d0, d1, d2, d3, d4, d5]) rfl ?_
            exact ⟨HQ.out, .inl ⟨_, HMe.out, HF.out, by rw [HD.out, Int.natCast_add]⟩⟩
        · have jd : ¬ (d : Int) < (S : Int) := by omega
          have HF : Hid (¬ HasA ⟨xv, xp, (m : Int), xb, xw, xe⟩ a) := fun e => by have := HH.out.1 e; omega
          clear hd hS z4 z5 HH
          go_wp2_with fail
          go_region
          have HB1 : Hid (Below w.heap.size w wr.drew) := HB.out.drew
          have HL1 : Hid (LfAt wr.drew w.heap.size lf0) := HL.out
          go_wp2_with fail
          go_roundw
          case rel => exact ⟨i + 1, by omega, rfl, HL1, HG.out HF.out, HB1⟩
          case measure => simp [intOf]; omega
      · have jv : ¬ (xv : Int) ≤ (a : Int) := by omega
        have HF : Hid (¬ HasA ⟨xv, xp, (m : Int), xb, xw, xe⟩ a) := fun e => by have := HH.out.1 e; omega
        clear z4 z5 HH
        go_wp2_with fail
        go_region
        have HB1 : Hid (Below w.heap.size w wr.drew) := HB.out.drew
        have HL1 : Hid (LfAt wr.drew w.heap.size lf0) := HL.out
        go_wp2_with fail
        go_roundw
        case rel => exact ⟨i + 1, by omega, rfl, HL1, HG.out HF.out, HB1⟩
        case measure => simp [intOf]; omega
    · have ji : ¬ (i : Int) < (n : Int) := by omega
      have hin' : i = n := by omega
      subst hin'
      have HA : Hid (∀ x ∈ xs, ¬ HasA x a) := none_all HN.out HE.out
      clear HE
      go_wp2_with fail
      have HP : Hid (LfAt (put6 wr w.heap.size lf0) w.heap.size lf0) := HL.out.put _
      have HQ : Hid (Below w.heap.size w (put6 wr w.heap.size lf0)) := put6_below HB.out (Nat.le_refl _) _
      refine (fun (h : bodyPost _ _ _ _ _ (put6 wr w.heap.size lf0)) => h) ?_
      generalize (put6 wr w.heap.size lf0) = W at *
      obtain ⟨d0, d1, d2, d3, d4, d5⟩ := HP.out.cells
      refine bodyPost_ret (v := .tuple #[.int .u64 0, V6 lf0, .bool false]) (by simp [results, Tryz.results18, go_sem, V6, d0, d1, d2, d3, d4, d5]) rfl ?_
      exact ⟨HQ.out, .inr ⟨HA.out, rfl⟩⟩
end Go.Proofs.YtlplbbnicfeoaaaGreat
