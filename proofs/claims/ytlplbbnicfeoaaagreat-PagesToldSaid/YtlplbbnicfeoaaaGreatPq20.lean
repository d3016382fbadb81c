import Derived.Test.YtlplbbnicfeoaaaGreatPq18
import Derived.Test.YtlplbbnicfeoaaaGreatPq19
/- The library's sort of a row of spans that is owned. Own work. -/
namespace Go.Proofs.YtlplbbnicfeoaaaGreat.U64
open Go.RowKit Go.Shelf Go.Proofs.YtlplbbnicfeoaaaGreat.Sp
open Go.Sort hiding Below

theorem isNaN_any (x : Int) (W : World) : Calls Tryz.prog 87 #[.int .u64 x] W fun e w' => e = .returned (.bool false) ∧ w' = W := by
  go_enter Tryz.func87, Tryz.ntmps87
  go_wp2
  go_ret
  exact ⟨by simp, rfl⟩
def cmpI (x y : Int) : Int := if x < y then -1 else if y < x then 1 else 0
set_option maxHeartbeats 1000000 in
theorem compare_any (x y : Int) (W : World) : Calls Tryz.prog 67 #[.int .u64 x, .int .u64 y] W fun e w' => e = .returned (.int .i64 (cmpI x y)) ∧ w' = W := by
  by_cases h1 : x < y
  · have e : cmpI x y = -1 := by simp [cmpI, h1]
    rw [e]
    go_enter Tryz.func67, Tryz.ntmps67
    go_wp2_with (go_at_call 87; refine (isNaN_any _ _).mono ?_; rintro e w' ⟨rfl, rfl⟩)
    go_ret
    exact ⟨rfl, rfl⟩
  · by_cases h2 : y < x
    · have e : cmpI x y = 1 := by simp [cmpI, h1, h2]
      rw [e]
      go_enter Tryz.func67, Tryz.ntmps67
      go_wp2_with (go_at_call 87; refine (isNaN_any _ _).mono ?_; rintro e w' ⟨rfl, rfl⟩)
      go_ret
      exact ⟨rfl, rfl⟩
    · have e : cmpI x y = 0 := by simp [cmpI, h1, h2]
      rw [e]
      go_enter Tryz.func67, Tryz.ntmps67
      go_wp2_with (go_at_call 87; refine (isNaN_any _ _).mono ?_; rintro e w' ⟨rfl, rfl⟩)
      go_ret
      exact ⟨rfl, rfl⟩
def cmpS (x y : Sp) : Int := cmpI x.1 y.1
set_option maxHeartbeats 1000000 in
theorem of1_any (x y : Sp) (W : World) : Calls Tryz.prog 66 #[.agg #[.int .u64 x.1, .int .u64 x.2], .agg #[.int .u64 y.1, .int .u64 y.2]] W fun e w' => e = .returned (.int .i64 (cmpS x y)) ∧ ∃ q os', w' = Go.Sort.grow (W.drewN q) os' := by
  have hcon := fun W' => compare_any x.1 y.1 W'
  unfold cmpS
  generalize cmpI x.1 y.1 = r at hcon ⊢
  go_enter Tryz.func66, Tryz.ntmps66
  go_wp2_with (go_at_call 67; refine (hcon _).mono ?_; rintro e w' ⟨rfl, rfl⟩)
  go_ret
  exact ⟨rfl, 0, _, by rw [Go.Sort.alloc_eq_grow, Go.Sort.alloc_eq_grow, Go.Sort.grow_grow]; rfl⟩
theorem ltS (x y : Sp) : ltOf cmpS x y = decide (x.1 < y.1) := by
  unfold ltOf cmpS cmpI
  by_cases h1 : x.1 < y.1
  · simp [h1]
  · by_cases h2 : y.1 < x.1 <;> simp [h1, h2]
theorem swoS : Go.Sort.SWO (ltOf cmpS) where
  irrefl x := by rw [ltS]; simp
  trans x y z h1 h2 := by rw [ltS] at *; simp at *; omega
  ntrans x y z h1 h2 := by rw [ltS] at *; simp at *; omega

theorem flat_get (d : Array Sp) (i : Nat) (h : i < d.size * 2) : (encs d.toList)[i]? = some (flatK enc 2 d)[i]! := by
  rw [get_flatK enc 2 d i h]
  have hj : i / 2 < d.toList.length := by simp; omega
  have e : d.toList[i / 2] = d[i / 2]! := by
    rw [getElem!_pos d (i / 2) (by omega)]; simp
  rcases Nat.mod_two_eq_zero_or_one i with h0 | h1
  · have := encs_get0 d.toList (i / 2) hj
    rw [show i / 2 * 2 = i by omega] at this
    rw [this, h0, e]
    rfl
  · have := encs_get1 d.toList (i / 2) hj
    rw [show i / 2 * 2 + 1 = i by omega] at this
    rw [this, h1, e]
    rfl
theorem holds_of_own {w : World} {base g cap n : Nat} {xs : List Sp} (h : Own w base (.slice (some ⟨g, 0, none⟩) n cap) xs) : HoldsK enc 2 w g 0 xs.toArray := by
  intro j hj
  rw [size_flatK] at hj
  have hg : ∃ cur, w.heap[g]? = some (.cells cur 132 (0, 0)) ∧ cur.toList.take (xs.length * 2) = encs xs := by
    rcases h.2 with ⟨hv, _⟩ | ⟨g', cap', cur, hv, hb, hg, hnc, hcm, hcs, ht⟩
    · cases hv
    · cases hv; exact ⟨cur, hg, ht⟩
  obtain ⟨cur, hg, ht⟩ := hg
  refine ⟨?_, by simp [World.frozen?, hg]⟩
  have := flat_get xs.toArray j hj
  rw [Nat.zero_add, cell_of_row w g j _ _ _ hg, ← Array.getElem?_toList, show (id (flatK enc 2 xs.toArray)[j]! : Value) = (flatK enc 2 xs.toArray)[j]! from rfl, ← this, ← ht, List.getElem?_take_of_lt (by simpa using hj)]
theorem own_of_put {w : World} {base g cap n m : Nat} {xs : List Sp} {d : Array Sp} {os : Array Obj} (h : Own w base (.slice (some ⟨g, 0, none⟩) n cap) xs) (hd : d.size = xs.length) :
    Own (sortWorldK enc 2 w g 0 m d os) base (.slice (some ⟨g, 0, none⟩) n cap) d.toList := by
  rcases h.2 with ⟨hv, _⟩ | ⟨g', cap', cur, hv, hb, hg, hnc, hcm, hcs, ht⟩
  · cases hv
  · cases hv
    refine ⟨by rw [encs_length], .inr ⟨g, cap, Go.Sort.putCells id 0 (flatK enc 2 d) cur, by simp [hd], hb, ?_, by simpa [hd] using hnc, hcm, by simp [Go.Sort.putCells, hcs], ?_⟩⟩
    · unfold sortWorldK
      rw [Go.Sort.heap_grow_old _ _ (by simp [putRowK]; exact (Array.getElem?_eq_some_iff.1 hg).1)]
      simp [putRowK, Go.Sort.putRow, Go.Sort.mapBlock, Array.getElem?_modify, hg, Go.Sort.onCells]
    · apply List.ext_getElem?
      intro i
      by_cases hi : i < d.size * 2
      · rw [List.getElem?_take_of_lt (by simpa using hi), flat_get d i hi, Array.getElem?_toList]
        simp only [Go.Sort.putCells, Array.getElem?_mapIdx]
        rw [Array.getElem?_eq_getElem (by omega)]
        simp [hi]
      · rw [List.getElem?_eq_none (by simp; omega), List.getElem?_eq_none (by rw [encs_length]; simp; omega)]
theorem below_put {w : World} {base g m : Nat} {d : Array Sp} {os : Array Obj} (hb : base ≤ g) (hg : g < w.heap.size) : Below base w (sortWorldK enc 2 w g 0 m d os) := by
  refine ⟨rfl, rfl, rfl, by simp [sortWorldK, putRowK], fun k hk => ?_⟩
  unfold sortWorldK
  rw [Go.Sort.heap_grow_old _ _ (by simp [putRowK]; omega)]
  simp only [putRowK, Go.Sort.putRow, Go.Sort.mapBlock, Array.getElem?_modify]
  rw [if_neg (by omega)]
  rfl

/-- THE SORT: a row that is owned holds the same spans, the lowest First first. -/
theorem sort_any {w : World} {base : Nat} {v : Value} {xs : List Sp} (h : Own w base v xs) (hl : xs.length ≤ 1099511627776) :
    Calls Tryz.prog 65 #[v, .func (.func 66) #[] #[]] w fun e w' => e = .returned (.tuple #[]) ∧ ∃ ys, Own w' base v ys ∧ ys.Perm xs ∧ ys.Pairwise (fun x y => x.1 ≤ y.1) ∧ Below base w w' := by
  rcases h.2 with ⟨rfl, h0⟩ | ⟨g, cap, cur, rfl, hb, hg, hnc, hcm, hcs, ht⟩
  · obtain rfl := List.eq_nil_of_length_eq_zero h0
    have := AnyF.slices_SortFunc_none { sortU64 with } none 0 (.func (.func 66) #[] #[]) w
    refine Calls.mono this ?_
    rintro e w' ⟨rfl, rfl⟩
    exact ⟨rfl, [], h, List.Perm.refl _, List.Pairwise.nil, Below.refl _ _⟩
  · have hgl := (Array.getElem?_eq_some_iff.1 hg).1
    have := AnyQ.slices_SortFunc sortU64 2 Tryz.isAgg132 Tryz.sizeOf132 enc (fun _ => rfl) (fun x v hv => by simp only [enc, List.mem_cons, List.not_mem_nil, or_false] at hv; rcases hv with rfl | rfl <;> rfl) cmpS swoS 66 #[] g 0 cap xs.toArray w (enters_of Tryz.func66 (by kernel_rfl) rfl) (fun _ _ _ _ x y => of1_any x y _) (holds_of_own h) hgl (by simp; omega)
    refine Calls.mono this ?_
    rintro e w' ⟨rfl, d', n, os, hp, hs, rfl⟩
    have hsz : d'.size = xs.length := by simpa using hp.1
    refine ⟨rfl, d'.toList, own_of_put h hsz, ?_, ?_, below_put hb hgl⟩
    · have hq : (List.take xs.length d'.toList).Perm xs := by simpa [hsz] using hp.2.2
      rwa [List.take_of_length_le (by simp [hsz])] at hq
    · rw [List.pairwise_iff_getElem]
      intro i j hi hj hij
      have := hs i j (Nat.zero_le _) hij (by simpa [hsz] using hj)
      rw [ltS] at this
      rw [getElem!_pos d' i (by simpa using hi), getElem!_pos d' j (by simpa using hj)] at this
      simpa using this
end Go.Proofs.YtlplbbnicfeoaaaGreat.U64
/- Clone, Spans, Of. Own work. -/
namespace Go.Proofs.YtlplbbnicfeoaaaGreat.U64
open Go.RowKit Go.Shelf Go.Proofs.YtlplbbnicfeoaaaGreat.Sp

theorem empty_any (x : Sp) (W : World) : Calls Tryz.prog 68 #[.agg #[.int .u64 x.1, .int .u64 x.2]] W fun e w' => e = .returned (.bool (decide (x.2 < x.1))) ∧ ∃ X, w' = W.alloc X := by
  go_enter Tryz.func68, Tryz.ntmps68
  go_wp2
  go_ret
  exact ⟨rfl, _, rfl⟩
theorem clone_any {w : World} {v : Value} {xs : List Sp} (hv : SV w v xs) (hl : xs.length ≤ 1099511627776) :
    Calls Tryz.prog 64 #[v] w fun e w' => ∃ v', e = .returned v' ∧ Own w' w.heap.size v' xs ∧ Below w.heap.size w w' := by
  obtain ⟨ao, cap, rfl, h1, h2, h3, h4, h5⟩ := hv
  cases ao with
  | none =>
    obtain ⟨rfl, rfl⟩ := h3 rfl
    have := AnyE.slices_Clone_nil cloneU64 0 0 w
    refine Calls.mono this ?_
    rintro e w' ⟨rfl, rfl⟩
    exact ⟨_, rfl, Own.nil _ _, Below.refl _ _⟩
  | some a =>
    obtain ⟨g, off, rfl, hg⟩ := h4 _ rfl
    obtain ⟨i, hi, hz0, hz1, hz2⟩ := info_parts info_span
    have := AnyE.slices_Clone cloneU64 i (.agg #[.int .u64 0, .int .u64 0]) 2 (2 * 8) hi hz0 hz1 hz2 rfl (by omega) Tryz.sizeOf132 g off xs.length cap (encs xs) w (encs_length xs) (by unfold maxLen; omega) (by omega) (fun j u hj => by
      have hjl : j < xs.length * 2 := by rw [← encs_length]; exact (List.getElem?_eq_some_iff.1 hj).1
      obtain ⟨g', off', e', d0, d1⟩ := h5 (j / 2) (by omega)
      cases e'
      rcases Nat.mod_two_eq_zero_or_one j with q | q
      · have := encs_get0 xs (j / 2) (by omega)
        rw [show j / 2 * 2 = j by omega] at this d0
        rw [d0, ← this, hj]
      · have := encs_get1 xs (j / 2) (by omega)
        rw [show j / 2 * 2 + 1 = j by omega] at this
        rw [show off + j / 2 * 2 + 1 = off + j by omega] at d1
        rw [d1, ← this, hj]) (encs_one xs)
    refine Calls.mono this ?_
    rintro e w' ⟨v', rfl, ho, _, hb⟩
    exact ⟨v', rfl, ho, hb⟩

set_option maxHeartbeats 2000000 in
theorem of_any {w : World} {v : Value} {xs : List Sp} (hv : SV w v xs) (hf : Fits 18446744073709551615 xs) (hl : xs.length ≤ 1099511627776) :
    Calls Tryz.prog 40 #[v] w (SetPost w (OfR 18446744073709551615 xs)) := by
  have HC : Hid (∀ X, Calls Tryz.prog 64 #[v] (w.alloc X) fun e w' => ∃ v', e = .returned v' ∧ Own w' (w.alloc X).heap.size v' xs ∧ Below (w.alloc X).heap.size (w.alloc X) w') := fun X => clone_any (hv.alloc X) hl
  clear hv
  go_enter Tryz.func40, Tryz.ntmps40
  go_wp2_with fail
  refine (HC.out _).mono ?_
  rintro e w1 ⟨v1, rfl, ho1, hb1⟩
  have HO1 : Hid (Own w1 (w.heap.size + 1) v1 xs) := show Own w1 (w.heap.size + 1) v1 xs by simpa using ho1
  have HB1 : Hid (Below (w.heap.size + 1) (w.alloc (.cells #[.slice none 0 0] 90)) w1) := show Below (w.heap.size + 1) (w.alloc (.cells #[.slice none 0 0] 90)) w1 by simpa using hb1
  clear ho1 hb1 HC
  go_wp2_with fail
  refine (sort_any HO1.out hl).mono ?_
  rintro e W0 ⟨rfl, ys, ho2, hp2, hs2, hb2⟩
  obtain ⟨a1, c1, hv1⟩ : ∃ a c, v1 = .slice a ys.length c := by
    obtain ⟨a, c, e, _⟩ := ho2.sv
    exact ⟨a, c, e⟩
  subst hv1
  have HO2 : Hid (Own W0 (w.heap.size + 1) (.slice a1 ys.length c1) ys) := ho2
  have HR : Hid (∀ k, Canon 18446744073709551615 (ofRow [] (ys.take k)) ∧ (∀ p, In p (ofRow [] (ys.take k)) ↔ In p (ys.take k)) ∧ (ofRow [] (ys.take k)).length ≤ k) := fun k => ofRow_made hp2 hs2 hf k
  have HP : Hid (ys.Perm xs) := hp2
  have hyl : ys.length ≤ 1099511627776 := by rw [hp2.length_eq]; exact hl
  have HF : Hid (∀ x ∈ ys, 0 ≤ x.1 ∧ x.1 ≤ 18446744073709551615 ∧ 0 ≤ x.2 ∧ x.2 ≤ 18446744073709551615) := fun x hx => hf x (hp2.mem_iff.1 hx)
  have HB2 : Hid (Below (w.heap.size + 1) (w.alloc (.cells #[.slice none 0 0] 90)) W0) := HB1.out.trans hb2
  have HSz : Hid (w.heap.size + 1 ≤ W0.heap.size) := by have := HB2.out.size; simp at this; exact this
  clear ho2 hp2 hs2 hb2 HO1 HB1 hf
  go_wp2_with fail
  go_loopw [4, 13] (fun v i wr => ∃ k : Nat, k ≤ ys.length ∧ i = .int .i64 (k : Int) ∧ Hid (Own wr W0.heap.size v (ofRow [] (ys.take k))) ∧ Hid (Below W0.heap.size W0 wr)) (fun _ i _ => ys.length - (intOf i).toNat)
  case atStart => exact ⟨0, Nat.zero_le _, rfl, Own.nil _ _, Below.refl _ _⟩
  case round =>
    obtain ⟨k, hk, rfl, HO, HB⟩ := hrel
    by_cases hlt : k < ys.length
    · obtain ⟨ao, cap, e, _, _, _, _, h5⟩ := HO2.out.sv.below HB.out (Nat.le_refl _)
      cases e
      obtain ⟨g, off, rfl, d0, d1⟩ := h5 k hlt
      clear h5
      obtain ⟨x, hx⟩ : ∃ x, x = ys[k] := ⟨_, rfl⟩
      rw [← hx] at d0 d1
      have HX : Hid (x = ys[k]) := hx
      have hb := HF.out x (by rw [hx]; exact List.getElem_mem _)
      clear hx
      have HB3 : Hid (∀ X Y, Below W0.heap.size W0 ((wr.alloc X).alloc Y)) := fun X Y => (HB.out.alloc HB.out.size X).alloc (by have := HB.out.size; simp; omega) Y
      have HO3 : Hid (∀ X Y, Own ((wr.alloc X).alloc Y) W0.heap.size u4 (ofRow [] (ys.take k))) := fun X Y => (HO.out.alloc X).alloc Y
      go_wp2_with fail
      refine (empty_any x _).mono ?_
      rintro e w' ⟨rfl, Y, rfl⟩
      have d2 := cell_alloc' Y (new2 (W := wr) rfl (.int .u64 x.1) (.int .u64 x.2) 132).1
      have d3 := cell_alloc' Y (new2 (W := wr) rfl (.int .u64 x.1) (.int .u64 x.2) 132).2
      clear d0 d1
      by_cases he : x.2 < x.1
      · have hd : decide (x.2 < x.1) = true := decide_eq_true he
        rw [hd]
        go_wp2_with fail
        go_roundw
        case rel => exact ⟨k + 1, by omega, by go_num, (show Own _ _ _ _ by rw [ofRow_take hlt, ← HX.out, ofStep, if_pos he]; exact HO3.out _ _), HB3.out _ _⟩
        case measure => simp [intOf]; omega
      · have hd : decide (x.2 < x.1) = false := decide_eq_false he
        rw [hd]
        go_wp2_with fail
        refine (join_any (x := x) (HO3.out _ _) (HB3.out _ _).size (HR.out k).1 hb.2.1 (by have := (HR.out k).2.2; omega)).mono ?_
        rintro e w4 ⟨v4, rfl, ho4, hb4⟩
        have HO4 : Hid (Own w4 W0.heap.size v4 (ofRow [] (ys.take (k + 1)))) := show Own _ _ _ _ by rw [ofRow_take hlt, ← HX.out, ofStep, if_neg (show ¬ x.2 < x.1 by omega)]; exact ho4
        have HB4 : Hid (Below W0.heap.size W0 w4) := (HB3.out _ _).trans hb4
        clear ho4 hb4
        go_wp2_with fail
        go_roundw
        case rel => exact ⟨k + 1, by omega, by go_num, HO4.out, HB4.out⟩
        case measure => simp [intOf]; omega
    · obtain rfl : k = ys.length := by omega
      obtain ⟨a4, n4, c4, hv4⟩ : ∃ a n c, u4 = .slice a n c := by
        obtain ⟨a, c, e, _⟩ := HO.out.sv
        exact ⟨a, _, c, e⟩
      subst hv4
      have hbk : wr.heap[w.heap.size]? = some (.cells #[.slice none 0 0] 90) := by
        rw [HB.out.block _ (by have := HSz.out; omega), HB2.out.block _ (by omega)]
        exact heap_alloc_new w _
      have hce : wr.cell? ⟨w.heap.size, 0, none⟩ = some (.slice none 0 0) := by rw [cell_of_row _ _ 0 _ _ _ hbk]; rfl
      have hfe : wr.frozen? ⟨w.heap.size, 0, none⟩ = false := by simp [World.frozen?, hbk]
      clear hbk
      go_wp2_with fail
      have d0 := World.cell?_setCell_same' wr ⟨w.heap.size, 0, none⟩ (.slice a4 n4 c4) (by rw [hce]; rfl)
      refine bodyPost_ret (v := .agg #[.slice a4 n4 c4]) (by simp [results, Tryz.results40, go_sem, d0]) rfl ?_
      have hR := HR.out ys.length
      rw [List.take_length] at hR
      have hO := HO.out
      rw [List.take_length] at hO
      refine ⟨_, _, rfl, (hO.low (by have := HSz.out; omega) _ _).lower (by have := HSz.out; omega), ⟨hR.1, fun p => (hR.2.1 p).trans (in_perm HP.out p), by rw [← HP.out.length_eq]; exact hR.2.2⟩, ?_⟩
      exact ((((Below.refl _ _).alloc (Nat.le_refl _) _).trans (HB2.out.mono (by omega))).trans (HB.out.mono (by have := HSz.out; omega))).setCell (p := ⟨w.heap.size, 0, none⟩) (Nat.le_refl _) _
end Go.Proofs.YtlplbbnicfeoaaaGreat.U64
/- Spans; With, Without. Own work (made by a program). -/
namespace Go.Proofs.YtlplbbnicfeoaaaGreat.U64
open Go.RowKit Go.Shelf Go.Proofs.YtlplbbnicfeoaaaGreat.Sp

/-- Three boxes: a set, a span, the result's. -/
theorem three_boxes (w : World) (vs : Value) (x : Sp) :
    ∃ W3, ((w.alloc (Obj.cells #[vs] 90)).alloc (Obj.cells #[Value.int IntKind.u64 x.1, Value.int IntKind.u64 x.2] 132)).alloc (Obj.cells #[Value.slice none 0 0] 90) = W3 ∧ W3.heap.size = w.heap.size + 1 + 1 + 1 ∧ Below w.heap.size w W3 ∧
      W3.cell? ⟨w.heap.size, 0, none⟩ = some vs ∧ W3.cell? ⟨w.heap.size + 1, 0, none⟩ = some (.int .u64 x.1) ∧ W3.cell? ⟨w.heap.size + 1, 1, none⟩ = some (.int .u64 x.2) ∧ W3.cell? ⟨w.heap.size + 1 + 1, 0, none⟩ = some (.slice none 0 0) ∧ W3.frozen? ⟨w.heap.size + 1 + 1, 0, none⟩ = false := by
  have e0 : ((w.alloc (Obj.cells #[vs] 90)).cell? ⟨w.heap.size, 0, none⟩) = some vs := by
    rw [cell_of_row _ _ 0 _ _ _ (heap_alloc_new w _)]; rfl
  have e1 := new2 (W := w.alloc (Obj.cells #[vs] 90)) (n := w.heap.size + 1) (by simp) (.int .u64 x.1) (.int .u64 x.2) 132
  have e2 := third_cell (w := w) (a := Obj.cells #[vs] 90) (b := Obj.cells #[Value.int IntKind.u64 x.1, Value.int IntKind.u64 x.2] 132) (v := .slice none 0 0) (t := 90) (Below.refl _ _)
  exact ⟨_, rfl, by simp, (((Below.refl _ _).alloc (Nat.le_refl _) _).alloc (by simp) _).alloc (by simp; omega) _, cell_alloc' _ (cell_alloc' _ e0), cell_alloc' _ e1.1, cell_alloc' _ e1.2, e2.1, e2.2⟩
/-- They lie as they were laid. -/
def Boxes (w W : World) (vs : Value) (x : Sp) : Prop :=
  W.cell? ⟨w.heap.size, 0, none⟩ = some vs ∧ W.cell? ⟨w.heap.size + 1, 0, none⟩ = some (.int .u64 x.1) ∧ W.cell? ⟨w.heap.size + 1, 1, none⟩ = some (.int .u64 x.2) ∧ W.cell? ⟨w.heap.size + 1 + 1, 0, none⟩ = some (.slice none 0 0) ∧ W.frozen? ⟨w.heap.size + 1 + 1, 0, none⟩ = false
theorem Boxes.below {w W W' : World} {vs : Value} {x : Sp} (h : Boxes w W vs x) (hb : Below W.heap.size W W') : Boxes w W' vs x := by
  obtain ⟨c0, c1, c2, c3, c4⟩ := h
  refine ⟨?_, ?_, ?_, ?_, ?_⟩
  · rw [hb.cell (World.block_lt_of_cell? W _ c0)]; exact c0
  · rw [hb.cell (World.block_lt_of_cell? W _ c1)]; exact c1
  · rw [hb.cell (World.block_lt_of_cell? W _ c2)]; exact c2
  · rw [hb.cell (World.block_lt_of_cell? W _ c3)]; exact c3
  · rw [hb.frozen (p := ⟨w.heap.size + 1 + 1, 0, none⟩) (World.block_lt_of_cell? W _ c3)]; exact c4
/-- Behind Of: the set of the span, and what lay before. -/
def Rest1 (w w2 : World) (x : Sp) (v2 : Value) : Prop := ∃ ts, SV w2 v2 ts ∧ OfR 18446744073709551615 [x] ts ∧ Below w.heap.size w w2 ∧ w.heap.size + 1 + 1 + 1 ≤ w2.heap.size
/-- Behind the call that makes the result. -/
def Rest2 (w w3 : World) (x : Sp) (keep : Bool → Bool → Bool) (s : List Sp) (v : Value) : Prop := ∃ rs, Own w3 (w.heap.size + 1 + 1 + 1) v rs ∧ (∃ ts, OfR 18446744073709551615 [x] ts ∧ Made 18446744073709551615 keep s ts rs) ∧ Below w.heap.size w w3
theorem one_sv {W : World} {g : Nat} {x : Sp} (h0 : W.cell? ⟨g, 0, none⟩ = some (.int .u64 x.1)) (h1 : W.cell? ⟨g, 1, none⟩ = some (.int .u64 x.2)) : SV W (.slice (some ⟨g, 0, none⟩) 1 1) [x] := by
  refine ⟨_, 1, rfl, Nat.le_refl _, by simp [maxLen], fun e => (by cases e), fun a e => (by cases e; exact ⟨g, 0, rfl, World.block_lt_of_cell? W _ h0⟩), fun j hj => ?_⟩
  obtain rfl : j = 0 := by simpa using hj
  exact ⟨g, 0, rfl, h0, h1⟩
theorem with1 {w W3 : World} {vs : Value} {x : Sp} (hx : Fits 18446744073709551615 [x]) (hz : W3.heap.size = w.heap.size + 1 + 1 + 1) (hb : Below w.heap.size w W3) (h : Boxes w W3 vs x) :
    Calls Tryz.prog 40 #[.slice (some ⟨w.heap.size + 1 + 1 + 1, 0, none⟩) 1 1] (W3.alloc (Obj.cells #[Value.int IntKind.u64 x.1, Value.int IntKind.u64 x.2] 132)).drew fun e w2 => ∃ a n c, e = .returned (.agg #[.slice a n c]) ∧ Boxes w w2 vs x ∧ Hid (Rest1 w w2 x (.slice a n c)) := by
  have hn := new2 hz (.int .u64 x.1) (.int .u64 x.2) 132
  have hbD : Below W3.heap.size W3 (W3.alloc (Obj.cells #[Value.int IntKind.u64 x.1, Value.int IntKind.u64 x.2] 132)).drew := ((Below.refl _ _).alloc (Nat.le_refl _) _).drew
  refine (of_any (one_sv (W := (W3.alloc (Obj.cells #[Value.int IntKind.u64 x.1, Value.int IntKind.u64 x.2] 132)).drew) hn.1 hn.2) hx (by simp)).mono ?_
  rintro e w2 ⟨v2, ts, rfl, ho, hr, hb2⟩
  obtain ⟨a, n, c, hv⟩ : ∃ a n c, v2 = .slice a n c := by
    obtain ⟨a, c, e, _⟩ := ho.sv
    exact ⟨a, _, c, e⟩
  subst hv
  refine ⟨a, n, c, rfl, (h.below hbD).below hb2, ts, ho.sv, hr, (hb.trans (hbD.mono (by omega))).trans (hb2.mono ?_), ?_⟩
  · have := hbD.size; omega
  · have := hbD.size; have := hb2.size; omega

theorem with2 {w w2 : World} {vs : Value} {s : List Sp} {x : Sp} {a : Option Addr} {n c : Nat} (hs : SV w vs s) (cs : Canon 18446744073709551615 s) (hl : s.length ≤ 137438953472) (h : Boxes w w2 vs x) (hr : Rest1 w w2 x (.slice a n c)) :
    Calls Tryz.prog 84 #[.agg #[vs], .agg #[.slice a n c]] w2 fun e w3 => ∃ a n c, e = .returned (.agg #[.slice a n c]) ∧ Boxes w w3 vs x ∧ Hid (Rest2 w w3 x (fun a b => a || b) s (.slice a n c)) := by
  obtain ⟨ts, h2, ht, hb, hz⟩ := hr
  refine (or_any (hs.below hb (Nat.le_refl _)) h2 cs ht.1 (by have := ht.2.2; simp at this; omega)).mono ?_
  rintro e w3 ⟨v3, rs, rfl, ho, hm, hb3⟩
  obtain ⟨a3, n3, c3, hv⟩ : ∃ a n c, v3 = .slice a n c := by
    obtain ⟨a, c, e, _⟩ := ho.sv
    exact ⟨a, _, c, e⟩
  subst hv
  exact ⟨a3, n3, c3, rfl, h.below hb3, rs, ho.lower hz, ⟨ts, ht, hm⟩, hb.trans (hb3.mono (by omega))⟩
set_option maxHeartbeats 2000000 in
theorem with_any {w : World} {vs : Value} {s : List Sp} {x : Sp} (hs : SV w vs s) (cs : Canon 18446744073709551615 s) (hl : s.length ≤ 137438953472) (hx : Fits 18446744073709551615 [x]) :
    Calls Tryz.prog 63 #[.agg #[vs], .agg #[.int .u64 x.1, .int .u64 x.2]] w (SetPost w fun rs => ∃ ts, OfR 18446744073709551615 [x] ts ∧ Made 18446744073709551615 (fun a b => a || b) s ts rs) := by
  have HS : Hid (SV w vs s) := hs
  have HX : Hid (Fits 18446744073709551615 [x]) := hx
  have HCs : Hid (Canon 18446744073709551615 s) := cs
  clear hs hx cs
  go_enter Tryz.func63, Tryz.ntmps63
  go_wp2_with fail
  obtain ⟨W3, hW3, hz, hb0, c0, c1, c2, c3, c4⟩ := three_boxes w vs x
  have H1 := with1 HX.out hz hb0 ⟨c0, c1, c2, c3, c4⟩
  have HC1 : Hid (Calls Tryz.prog 40 #[.slice (some ⟨w.heap.size + 1 + 1 + 1, 0, none⟩) 1 1] (W3.alloc (Obj.cells #[Value.int IntKind.u64 x.1, Value.int IntKind.u64 x.2] 132)).drew fun e w2 => ∃ a n c, e = .returned (.agg #[.slice a n c]) ∧ Boxes w w2 vs x ∧ Hid (Rest1 w w2 x (.slice a n c))) := H1
  rw [hW3]
  clear hW3 hb0 H1
  go_region_held (fun w' => w'.cell? ⟨w.heap.size, 0, none⟩ = some vs ∧ w'.cell? ⟨w.heap.size + 1, 0, none⟩ = some (.int .u64 x.1) ∧ w'.cell? ⟨w.heap.size + 1, 1, none⟩ = some (.int .u64 x.2)) (first | exact ⟨(set_other (by omega)).trans (by assumption), (set_other (by omega)).trans (by assumption), (set_other (by omega)).trans (by assumption)⟩ | go_keep)
    (first | (go_at_call 40; refine HC1.out.mono ?_; rintro e w2 ⟨a2, n2, k2, rfl, hbox, HR1⟩; have HX2 : Hid (Boxes w w2 vs x) := hbox; obtain ⟨d0, d1, d2, d3, d4⟩ := hbox) | (go_at_call 84; refine (with2 HS.out HCs.out hl HX2.out HR1.out).mono ?_; rintro e w3 ⟨a3, n3, k3, rfl, hbox3, HR2⟩; obtain ⟨b0, b1, b2, b3, b4⟩ := hbox3))
  go_wp2_with fail
  have e0 := World.cell?_setCell_same' w3 ⟨w.heap.size + 1 + 1, 0, none⟩ (.slice a3 n3 k3) (by rw [b3]; rfl)
  refine bodyPost_ret (v := .agg #[.slice a3 n3 k3]) (by simp [results, Tryz.results63, go_sem, e0]) rfl ?_
  obtain ⟨rs, ho, hm, hb⟩ := HR2.out
  exact ⟨_, rs, rfl, (ho.low (by omega) _ _).lower (by omega), hm, hb.setCell (p := ⟨w.heap.size + 1 + 1, 0, none⟩) (by show w.heap.size ≤ w.heap.size + 1 + 1; omega) _⟩

end Go.Proofs.YtlplbbnicfeoaaaGreat.U64
