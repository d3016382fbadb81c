/- beyond, Size, Largest. Own work. -/
import Derived.Test.YtogcpogoamoljaaSpWithU8
import Derived.Test.YtogcpogoamoljaaSpNumU64
import Derived.Test.YtogcpogoamoljaaSpMath2
namespace Go.Proofs.Ytogcpogoamoljaa.U8
open Go.RowKit Go.Shelf Go.Proofs.Ytogcpogoamoljaa.Sp

theorem beyond_any {x : Sp} (h : 0 ≤ x.1 ∧ x.1 ≤ x.2 ∧ x.2 ≤ 255) (w : World) : Calls Try.prog 32 #[.agg #[.int .u8 x.1, .int .u8 x.2]] w fun e w' => e = .returned (.int .u8 (x.2 - x.1)) ∧ ∃ X, w' = w.alloc X := by
  go_enter Try.func32, Try.ntmps32
  go_wp2
  go_ret
  exact ⟨rfl, _, rfl⟩
set_option maxHeartbeats 2000000 in
theorem size_any {w : World} {v : Value} {xs : List Sp} (hv : SV w v xs) (hc : Canon 255 xs) :
    Calls Try.prog 23 #[.agg #[v]] w fun e w' => e = .returned (.tuple #[.int .u64 (sizeB xs).1, .bool (sizeB xs).2]) ∧ Below w.heap.size w w' := by
  have HV : Hid (∀ X, SV (w.alloc X) v xs) := fun X => hv.alloc X
  have HC : Hid (Canon 255 xs) := hc
  obtain ⟨ao, cap, rfl, h1, h2, h3, h4, h5⟩ := hv
  unfold maxLen at h2
  clear h3 h4 h5 hc
  go_enter Try.func23, Try.ntmps23
  go_wp2_with fail
  obtain ⟨W0, hW0⟩ : ∃ W0, w.alloc (Obj.cells #[.slice ao xs.length cap] 25) = W0 := ⟨_, rfl⟩
  have HV0 : Hid (SV W0 (.slice ao xs.length cap) xs) := hW0 ▸ HV.out _
  have HB0 : Hid (Below w.heap.size w W0) := hW0 ▸ (Below.refl _ _).alloc (Nat.le_refl _) _
  rw [hW0]
  clear hW0 HV
  go_loopw [4, 5, 11] (fun n b i wr => ∃ k : Nat, k ≤ xs.length ∧ i = .int .i64 (k : Int) ∧ n = .int .u64 (sizeB (xs.take k)).1 ∧ b = .bool (sizeB (xs.take k)).2 ∧ Hid (Below W0.heap.size W0 wr)) (fun _ _ i _ => xs.length - (intOf i).toNat)
  case atStart => exact ⟨0, Nat.zero_le _, rfl, rfl, rfl, Below.refl _ _⟩
  case round =>
    obtain ⟨k, hk, rfl, rfl, rfl, HB⟩ := hrel
    by_cases hlt : k < xs.length
    · obtain ⟨ao', cap', e, _, _, _, _, h5⟩ := HV0.out.below HB.out (Nat.le_refl _)
      cases e
      obtain ⟨g, off, rfl, d0, d1⟩ := h5 k hlt
      clear h5
      have hb := HC.out.1 xs[k] (List.getElem_mem _)
      have ha := tot_ahead HC.out hlt
      have hn := tot_nonneg (canon_take HC.out k)
      have ht := tot_take hlt
      obtain ⟨x, hx⟩ : ∃ x, x = xs[k] := ⟨_, rfl⟩
      rw [← hx] at d0 d1 hb ha ht
      obtain ⟨T, hT⟩ : ∃ T, T = tot (xs.take k) := ⟨_, rfl⟩
      have hs : sizeB (xs.take k) = (T, true) := by simp only [sizeB]; rw [if_pos (by omega), hT]
      have hs2 : sizeB (xs.take (k + 1)) = U64.addB (T + (x.2 - x.1)) 1 := by
        simp only [sizeB, U64.addB, ht, ← hT]
        rw [show T + (x.2 - x.1 + 1) = T + (x.2 - x.1) + 1 by omega]
      rw [← hT] at ha hn
      rw [hs]
      have HS2 : Hid (sizeB (xs.take (k + 1)) = U64.addB (T + (x.2 - x.1)) 1) := hs2
      have HB3 : Hid (∀ X Y, Below W0.heap.size W0 ((wr.alloc X).alloc Y)) := fun X Y => (HB.out.alloc HB.out.size X).alloc (by have := HB.out.size; simp; omega) Y
      have HA : Hid (∀ W, Calls Try.prog 41 #[.int .u64 (T + (x.2 - x.1)), .int .u64 1] W fun e w' => e = .returned (.tuple #[.int .u64 (U64.addB (T + (x.2 - x.1)) 1).1, .bool (U64.addB (T + (x.2 - x.1)) 1).2]) ∧ w' = W) := fun W => U64.add_any (by omega) (by omega) W
      clear hx hT hs hs2 ht
      go_wp2_with fail
      refine (beyond_any hb _).mono ?_
      rintro e w' ⟨rfl, X, rfl⟩
      go_wp2_with fail
      refine (HA.out _).mono ?_
      rintro e w' ⟨rfl, rfl⟩
      clear HA
      go_wp2_with fail
      go_roundw
      case rel => exact ⟨k + 1, by omega, by go_num, by rw [HS2.out], by rw [HS2.out], HB3.out _ _⟩
      case measure => simp [intOf]; omega
    · obtain rfl : k = xs.length := by omega
      rw [List.take_length]
      go_wp2_with fail
      go_ret2
      exact ⟨rfl, HB0.out.trans (HB.out.mono HB0.out.size)⟩

set_option maxHeartbeats 2000000 in
theorem largest_none {w : World} {v : Value} (hv : SV w v []) :
    Calls Try.prog 18 #[.agg #[v]] w fun e w' => e = .returned (.tuple #[.agg #[.int .u8 0, .int .u8 0], .bool false]) ∧ Below w.heap.size w w' := by
  obtain ⟨ao, cap, rfl, h1, h2, h3, h4, h5⟩ := hv
  clear h3 h4 h5
  have HB0 : Hid (∀ a b, Below w.heap.size w ((w.alloc a).alloc b)) := fun a b => ((Below.refl _ _).alloc (Nat.le_refl _) _).alloc (by simp) _
  have d := new2 (W := w.alloc (Obj.cells #[.slice ao 0 cap] 25)) (n := w.heap.size + 1) (by simp) (.int .u8 0) (.int .u8 0) 28
  go_enter Try.func18, Try.ntmps18
  go_wp2_with fail
  refine bodyPost_ret (v := .tuple #[.agg #[.int .u8 0, .int .u8 0], .bool false]) (by simp [results, Try.results18, go_sem]) rfl ?_
  exact ⟨rfl, HB0.out _ _⟩
/-- Two cells of a block of their own. -/
def Box2 (w : World) (b : Nat) (x : Sp) : Prop := w.heap[b]? = some (.cells #[.int .u8 x.1, .int .u8 x.2] 28 (0, 0))
theorem Box2.cells {w : World} {b : Nat} {x : Sp} (h : Box2 w b x) : w.cell? ⟨b, 0, none⟩ = some (.int .u8 x.1) ∧ w.cell? ⟨b, 1, none⟩ = some (.int .u8 x.2) ∧ w.frozen? ⟨b, 0, none⟩ = false ∧ w.frozen? ⟨b, 1, none⟩ = false :=
  ⟨by rw [cell_of_row _ _ 0 _ _ _ h]; rfl, by rw [cell_of_row _ _ 1 _ _ _ h]; rfl, by unfold Box2 at h; simp [World.frozen?, h], by unfold Box2 at h; simp [World.frozen?, h]⟩
theorem Box2.lt {w : World} {b : Nat} {x : Sp} (h : Box2 w b x) : b < w.heap.size := (Array.getElem?_eq_some_iff.1 h).1
theorem Box2.alloc {w : World} {b : Nat} {x : Sp} (h : Box2 w b x) (o : Obj) : Box2 (w.alloc o) b x := (Below.heap_alloc w o b h.lt).trans h
theorem Box2.new (w : World) (x : Sp) : Box2 (w.alloc (.cells #[.int .u8 x.1, .int .u8 x.2] 28)) w.heap.size x := heap_alloc_new w _
theorem Box2.below {w w' : World} {b : Nat} {x : Sp} {B : Nat} (h : Box2 w b x) (hb : Below B w w') (hB : b < B) : Box2 w' b x := (hb.block b hB).trans h
theorem Box2.low {w : World} {b c i : Nat} {x : Sp} {u : Value} (h : Box2 w b x) (hc : b ≠ c) : Box2 (w.setCell ⟨c, i, none⟩ u) b x := (Below.heap_setCell _ _ _ _ hc).trans h
theorem Box2.set {w : World} {b : Nat} {x : Sp} (h : Box2 w b x) (y : Sp) : Box2 ((w.setCell ⟨b, 0, none⟩ (.int .u8 y.1)).setCell ⟨b, 1, none⟩ (.int .u8 y.2)) b y := by
  unfold Box2 at h ⊢
  simp [World.setCell, Array.getElem?_modify, h]
set_option maxHeartbeats 4000000 in
theorem largest_some {w : World} {v : Value} {x0 : Sp} {r : List Sp} (hv : SV w v (x0 :: r)) (hc : Canon 255 (x0 :: r)) :
    Calls Try.prog 18 #[.agg #[v]] w fun e w' => e = .returned (.tuple #[.agg #[.int .u8 (biggest x0 r).1, .int .u8 (biggest x0 r).2], .bool true]) ∧ Below w.heap.size w w' := by
  have HV : Hid (SV w v (x0 :: r)) := hv
  have HC : Hid (Canon 255 (x0 :: r)) := hc
  obtain ⟨ao, cap, rfl, h1, h2, h3, h4, h5⟩ := hv
  obtain ⟨g, off, rfl, c0, c1⟩ := h5 0 (by simp)
  simp only [List.getElem_cons_zero, Nat.zero_mul, Nat.add_zero, List.length_cons] at c0 c1 h1 ⊢
  unfold maxLen at h2
  have hA : ∀ o o', ((w.alloc o).alloc o').cell? ⟨g, off, none⟩ = some (.int .u8 x0.1) := fun o o' => cell_alloc' _ (cell_alloc' _ c0)
  have hA1 : ∀ o o', ((w.alloc o).alloc o').cell? ⟨g, off + 1, none⟩ = some (.int .u8 x0.2) := fun o o' => cell_alloc' _ (cell_alloc' _ c1)
  clear h3 h4 h5 hc c0 c1
  go_enter Try.func18, Try.ntmps18
  go_wp2_with fail
  · have hr0 : r.length = 0 := by omega
    obtain ⟨W0, hW0⟩ : ∃ W0, ((w.alloc (Obj.cells #[Value.slice (some ⟨g, off, none⟩) (r.length + 1) 1] 25)).alloc (Obj.cells #[Value.int IntKind.u8 0, Value.int IntKind.u8 0] 28)).alloc (Obj.cells #[Value.int IntKind.u8 x0.1, Value.int IntKind.u8 x0.2] 28) = W0 := ⟨_, rfl⟩
    have HB0 : Hid (Below w.heap.size w W0) := hW0 ▸ (((Below.refl _ _).alloc (Nat.le_refl _) _).alloc (by simp) _).alloc (by simp; omega) _
    have hbx := Box2.new ((w.alloc (Obj.cells #[Value.slice (some ⟨g, off, none⟩) (r.length + 1) 1] 25)).alloc (Obj.cells #[Value.int IntKind.u8 0, Value.int IntKind.u8 0] 28)) x0
    rw [show ((w.alloc (Obj.cells #[Value.slice (some ⟨g, off, none⟩) (r.length + 1) 1] 25)).alloc (Obj.cells #[Value.int IntKind.u8 0, Value.int IntKind.u8 0] 28)).heap.size = w.heap.size + 1 + 1 by simp, hW0] at hbx
    have hbr := (Box2.new (w.alloc (Obj.cells #[Value.slice (some ⟨g, off, none⟩) (r.length + 1) 1] 25)) (0, 0)).alloc (Obj.cells #[Value.int IntKind.u8 x0.1, Value.int IntKind.u8 x0.2] 28)
    rw [show (w.alloc (Obj.cells #[Value.slice (some ⟨g, off, none⟩) (r.length + 1) 1] 25)).heap.size = w.heap.size + 1 by simp, hW0] at hbr
    have HX0 : Hid (Box2 W0 (w.heap.size + 1 + 1) x0) := hbx
    have HR0 : Hid (Box2 W0 (w.heap.size + 1) (0, 0)) := hbr
    rw [hW0]
    clear hW0 hbx hbr hA hA1
    go_loopw [20] (fun i wr => ∃ k : Nat, k ≤ r.length ∧ i = .int .i64 (k : Int) ∧ Hid (Box2 wr (w.heap.size + 1 + 1) (biggest x0 (r.take k))) ∧ Hid (Below (w.heap.size + 1 + 1) W0 wr)) (fun i _ => r.length - (intOf i).toNat)
    case atStart => exact ⟨0, Nat.zero_le _, rfl, HX0.out, Below.refl _ _⟩
    case round =>
      obtain ⟨k, hk, rfl, HX, HB⟩ := hrel
      by_cases hlt : k < r.length
      · omega
      · obtain rfl : k = r.length := by omega
        have hX := HX.out
        rw [List.take_length] at hX
        obtain ⟨y, hy⟩ : ∃ y, y = biggest x0 r := ⟨_, rfl⟩
        rw [← hy] at hX
        have HY : Hid (y = biggest x0 r) := hy
        obtain ⟨m0, m1, m2, m3⟩ := hX.cells
        obtain ⟨n0, n1, n2, n3⟩ := (HR0.out.below HB.out (by omega)).cells
        have HF : Hid (Box2 ((wr.setCell ⟨w.heap.size + 1, 0, none⟩ (.int .u8 y.1)).setCell ⟨w.heap.size + 1, 1, none⟩ (.int .u8 y.2)) (w.heap.size + 1) y) := (HR0.out.below HB.out (by omega)).set y
        have HBF : Hid (Below w.heap.size w ((wr.setCell ⟨w.heap.size + 1, 0, none⟩ (.int .u8 y.1)).setCell ⟨w.heap.size + 1, 1, none⟩ (.int .u8 y.2))) := ((HB0.out.trans (HB.out.mono (by omega))).setCell (p := ⟨w.heap.size + 1, 0, none⟩) (by show w.heap.size ≤ w.heap.size + 1; omega) _).setCell (p := ⟨w.heap.size + 1, 1, none⟩) (by show w.heap.size ≤ w.heap.size + 1; omega) _
        clear hX hy HX
        go_wp2_with fail
        obtain ⟨f0, f1, _, _⟩ := HF.out.cells
        refine bodyPost_ret (v := .tuple #[.agg #[.int .u8 y.1, .int .u8 y.2], .bool true]) (by simp [results, Try.results18, go_sem, f0, f1]) rfl ?_
        exact ⟨by rw [HY.out], HBF.out⟩
  · have HT : Hid (SV w (.slice (some ⟨g, off + 2, none⟩) r.length (cap - 1)) r) := HV.out.tail
    obtain ⟨W0, hW0⟩ : ∃ W0, ((w.alloc (Obj.cells #[Value.slice (some ⟨g, off, none⟩) (r.length + 1) cap] 25)).alloc (Obj.cells #[Value.int IntKind.u8 0, Value.int IntKind.u8 0] 28)).alloc (Obj.cells #[Value.int IntKind.u8 x0.1, Value.int IntKind.u8 x0.2] 28) = W0 := ⟨_, rfl⟩
    have HB0 : Hid (Below w.heap.size w W0) := hW0 ▸ (((Below.refl _ _).alloc (Nat.le_refl _) _).alloc (by simp) _).alloc (by simp; omega) _
    have hbx := Box2.new ((w.alloc (Obj.cells #[Value.slice (some ⟨g, off, none⟩) (r.length + 1) cap] 25)).alloc (Obj.cells #[Value.int IntKind.u8 0, Value.int IntKind.u8 0] 28)) x0
    rw [show ((w.alloc (Obj.cells #[Value.slice (some ⟨g, off, none⟩) (r.length + 1) cap] 25)).alloc (Obj.cells #[Value.int IntKind.u8 0, Value.int IntKind.u8 0] 28)).heap.size = w.heap.size + 1 + 1 by simp, hW0] at hbx
    have hbr := (Box2.new (w.alloc (Obj.cells #[Value.slice (some ⟨g, off, none⟩) (r.length + 1) cap] 25)) (0, 0)).alloc (Obj.cells #[Value.int IntKind.u8 x0.1, Value.int IntKind.u8 x0.2] 28)
    rw [show (w.alloc (Obj.cells #[Value.slice (some ⟨g, off, none⟩) (r.length + 1) cap] 25)).heap.size = w.heap.size + 1 by simp, hW0] at hbr
    have HX0 : Hid (Box2 W0 (w.heap.size + 1 + 1) x0) := hbx
    have HR0 : Hid (Box2 W0 (w.heap.size + 1) (0, 0)) := hbr
    rw [hW0]
    clear hW0 hbx hbr hA hA1
    go_loopw [20] (fun i wr => ∃ k : Nat, k ≤ r.length ∧ i = .int .i64 (k : Int) ∧ Hid (Box2 wr (w.heap.size + 1 + 1) (biggest x0 (r.take k))) ∧ Hid (Below (w.heap.size + 1 + 1) W0 wr)) (fun i _ => r.length - (intOf i).toNat)
    case atStart => exact ⟨0, Nat.zero_le _, rfl, HX0.out, Below.refl _ _⟩
    case round =>
      obtain ⟨k, hk, rfl, HX, HB⟩ := hrel
      by_cases hlt : k < r.length
      · obtain ⟨ao', cap', e, _, _, _, _, h5⟩ := HT.out.below (HB0.out.trans (HB.out.mono (by omega))) (Nat.le_refl _)
        cases e
        obtain ⟨g', off', e', d0, d1⟩ := h5 k hlt
        cases e'
        clear h5
        have hb := HC.out.1 r[k] (by simp)
        obtain ⟨x, hx⟩ : ∃ x, x = r[k] := ⟨_, rfl⟩
        rw [← hx] at d0 d1 hb
        have hM := biggest_in HC.out k
        obtain ⟨y, hy⟩ : ∃ y, y = biggest x0 (r.take k) := ⟨_, rfl⟩
        have HX' : Hid (Box2 wr (w.heap.size + 1 + 1) y) := hy ▸ HX.out
        rw [← hy] at hM
        have HN : Hid (biggest x0 (r.take (k + 1)) = bigger y x) := (biggest_take hlt).trans (by rw [hy, hx])
        have HB3 : Hid (∀ X, Below (w.heap.size + 1 + 1) W0 (wr.alloc X)) := fun X => HB.out.alloc (by have := HX'.out.lt; omega) X
        obtain ⟨m0, m1, m2, m3⟩ := (HX'.out.alloc (.cells #[.int .u8 x.1, .int .u8 x.2] 28)).cells
        obtain ⟨n0, n1, n2, n3⟩ := (Box2.new wr x).cells
        have HBz : Hid (∀ a b W, (a = x.1 ∧ b = x.2) ∨ (a = y.1 ∧ b = y.2) → Calls Try.prog 32 #[.agg #[.int .u8 a, .int .u8 b]] W fun e w' => e = .returned (.int .u8 (b - a)) ∧ ∃ X, w' = W.alloc X) := fun a b W h => by
          rcases h with ⟨rfl, rfl⟩ | ⟨rfl, rfl⟩
          · exact beyond_any hb W
          · exact beyond_any hM W
        clear hx hy HX n2 n3
        go_wp2_with fail
        go_region_held (fun w' => w'.cell? ⟨w.heap.size + 1 + 1, 0, none⟩ = some (.int .u8 y.1) ∧ w'.cell? ⟨w.heap.size + 1 + 1, 1, none⟩ = some (.int .u8 y.2) ∧ w'.cell? ⟨wr.heap.size, 0, none⟩ = some (.int .u8 x.1) ∧ w'.cell? ⟨wr.heap.size, 1, none⟩ = some (.int .u8 x.2)) (go_keep) (first | (go_at_call 32; refine (HBz.out _ _ _ (by first | exact .inl ⟨rfl, rfl⟩ | exact .inr ⟨rfl, rfl⟩)).mono ?_; rintro e w' ⟨rfl, X, rfl⟩))
        have HQ : Hid (∀ X1 X2, Box2 (((wr.alloc (.cells #[.int .u8 x.1, .int .u8 x.2] 28)).alloc X1).alloc X2) (w.heap.size + 1 + 1) y) := fun X1 X2 => ((HX'.out.alloc _).alloc X1).alloc X2
        have q0 := fun X1 X2 => (HQ.out X1 X2).cells.1
        have q1 := fun X1 X2 => (HQ.out X1 X2).cells.2.1
        have q2 := fun X1 X2 => (HQ.out X1 X2).cells.2.2.1
        have q3 := fun X1 X2 => (HQ.out X1 X2).cells.2.2.2
        have HW : Hid (∀ X1 X2, Below (w.heap.size + 1 + 1) W0 (((wr.alloc (.cells #[.int .u8 x.1, .int .u8 x.2] 28)).alloc X1).alloc X2)) := fun X1 X2 => ((HB3.out _).alloc (by have := HX'.out.lt; simp; omega) X1).alloc (by have := HX'.out.lt; simp; omega) X2
        clear m0 m1 m2 m3
        by_cases hbig : y.2 - y.1 < x.2 - x.1
        · have hd : decide (y.2 - y.1 < x.2 - x.1) = true := decide_eq_true hbig
          have HE : Hid (biggest x0 (r.take (k + 1)) = x) := HN.out.trans (by rw [bigger, if_pos hbig])
          go_wp2_with fail
          go_roundw
          case rel => exact ⟨k + 1, by omega, by go_num, (show Box2 _ _ _ by rw [HE.out]; exact (HQ.out _ _).set x), (((HW.out _ _).setCell (p := ⟨w.heap.size + 1 + 1, 0, none⟩) (Nat.le_refl _) _).setCell (p := ⟨w.heap.size + 1 + 1, 1, none⟩) (Nat.le_refl _) _).drew⟩
          case measure => simp [intOf]; omega
        · have hd : decide (y.2 - y.1 < x.2 - x.1) = false := decide_eq_false hbig
          have HE : Hid (biggest x0 (r.take (k + 1)) = y) := HN.out.trans (by rw [bigger, if_neg hbig])
          go_wp2_with fail
          go_roundw
          case rel => exact ⟨k + 1, by omega, by go_num, (show Box2 _ _ _ by rw [HE.out]; exact HQ.out _ _), (HW.out _ _).drew⟩
          case measure => simp [intOf]; omega
      · obtain rfl : k = r.length := by omega
        have hX := HX.out
        rw [List.take_length] at hX
        obtain ⟨y, hy⟩ : ∃ y, y = biggest x0 r := ⟨_, rfl⟩
        rw [← hy] at hX
        have HY : Hid (y = biggest x0 r) := hy
        obtain ⟨m0, m1, m2, m3⟩ := hX.cells
        obtain ⟨n0, n1, n2, n3⟩ := (HR0.out.below HB.out (by omega)).cells
        have HF : Hid (Box2 ((wr.setCell ⟨w.heap.size + 1, 0, none⟩ (.int .u8 y.1)).setCell ⟨w.heap.size + 1, 1, none⟩ (.int .u8 y.2)) (w.heap.size + 1) y) := (HR0.out.below HB.out (by omega)).set y
        have HBF : Hid (Below w.heap.size w ((wr.setCell ⟨w.heap.size + 1, 0, none⟩ (.int .u8 y.1)).setCell ⟨w.heap.size + 1, 1, none⟩ (.int .u8 y.2))) := ((HB0.out.trans (HB.out.mono (by omega))).setCell (p := ⟨w.heap.size + 1, 0, none⟩) (by show w.heap.size ≤ w.heap.size + 1; omega) _).setCell (p := ⟨w.heap.size + 1, 1, none⟩) (by show w.heap.size ≤ w.heap.size + 1; omega) _
        clear hX hy HX
        go_wp2_with fail
        obtain ⟨f0, f1, _, _⟩ := HF.out.cells
        refine bodyPost_ret (v := .tuple #[.agg #[.int .u8 y.1, .int .u8 y.2], .bool true]) (by simp [results, Try.results18, go_sem, f0, f1]) rfl ?_
        exact ⟨by rw [HY.out], HBF.out⟩
end Go.Proofs.Ytogcpogoamoljaa.U8
