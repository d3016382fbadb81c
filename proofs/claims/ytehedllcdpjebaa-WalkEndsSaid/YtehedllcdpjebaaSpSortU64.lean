/- The library's sort of a row of spans that is owned. Own work. -/
import Derived.Test.YtehedllcdpjebaaSpOpsU64
import Derived.Test.YtehedllcdpjebaaShelfU64
namespace Go.Proofs.Ytehedllcdpjebaa.U64
open Go.RowKit Go.Shelf Go.Proofs.Ytehedllcdpjebaa.Sp
open Go.Sort hiding Below

theorem isNaN_any (x : Int) (W : World) : Calls Try.prog 57 #[.int .u64 x] W fun e w' => e = .returned (.bool false) ∧ w' = W := by
  go_enter Try.func57, Try.ntmps57
  go_wp2
  go_ret
  exact ⟨by simp, rfl⟩
def cmpI (x y : Int) : Int := if x < y then -1 else if y < x then 1 else 0
set_option maxHeartbeats 1000000 in
theorem compare_any (x y : Int) (W : World) : Calls Try.prog 42 #[.int .u64 x, .int .u64 y] W fun e w' => e = .returned (.int .i64 (cmpI x y)) ∧ w' = W := by
  by_cases h1 : x < y
  · have e : cmpI x y = -1 := by simp [cmpI, h1]
    rw [e]
    go_enter Try.func42, Try.ntmps42
    go_wp2_with (go_at_call 57; refine (isNaN_any _ _).mono ?_; rintro e w' ⟨rfl, rfl⟩)
    go_ret
    exact ⟨rfl, rfl⟩
  · by_cases h2 : y < x
    · have e : cmpI x y = 1 := by simp [cmpI, h1, h2]
      rw [e]
      go_enter Try.func42, Try.ntmps42
      go_wp2_with (go_at_call 57; refine (isNaN_any _ _).mono ?_; rintro e w' ⟨rfl, rfl⟩)
      go_ret
      exact ⟨rfl, rfl⟩
    · have e : cmpI x y = 0 := by simp [cmpI, h1, h2]
      rw [e]
      go_enter Try.func42, Try.ntmps42
      go_wp2_with (go_at_call 57; refine (isNaN_any _ _).mono ?_; rintro e w' ⟨rfl, rfl⟩)
      go_ret
      exact ⟨rfl, rfl⟩
def cmpS (x y : Sp) : Int := cmpI x.1 y.1
set_option maxHeartbeats 1000000 in
theorem of1_any (x y : Sp) (W : World) : Calls Try.prog 41 #[.agg #[.int .u64 x.1, .int .u64 x.2], .agg #[.int .u64 y.1, .int .u64 y.2]] W fun e w' => e = .returned (.int .i64 (cmpS x y)) ∧ ∃ q os', w' = Go.Sort.grow (W.drewN q) os' := by
  have hcon := fun W' => compare_any x.1 y.1 W'
  unfold cmpS
  generalize cmpI x.1 y.1 = r at hcon ⊢
  go_enter Try.func41, Try.ntmps41
  go_wp2_with (go_at_call 42; refine (hcon _).mono ?_; rintro e w' ⟨rfl, rfl⟩)
  go_ret
  exact ⟨rfl, 0, _, by rw [Go.Sort.alloc_eq_grow, Go.Sort.alloc_eq_grow, Go.Sort.grow_grow]; rfl⟩
theorem ltS (x y : Sp) : ltOf cmpS x y = decide (x.1 < y.1) := by
  unfold ltOf cmpS cmpI
  by_cases h1 : x.1 < y.1
  · simp [h1]
  · by_cases h2 : y.1 < x.1 <;> simp [h1, h2]
theorem swoS : Go.Sort.SWO (ltOf cmpS) where
  irrefl x := by rw [ltS]; simp
  trans x y z h1 h2 := by rw [ltS] at *; simp at *; omega
  ntrans x y z h1 h2 := by rw [ltS] at *; simp at *; omega

theorem flat_get (d : Array Sp) (i : Nat) (h : i < d.size * 2) : (encs d.toList)[i]? = some (flatK enc 2 d)[i]! := by
  rw [get_flatK enc 2 d i h]
  have hj : i / 2 < d.toList.length := by simp; omega
  have e : d.toList[i / 2] = d[i / 2]! := by
    rw [getElem!_pos d (i / 2) (by omega)]; simp
  rcases Nat.mod_two_eq_zero_or_one i with h0 | h1
  · have := encs_get0 d.toList (i / 2) hj
    rw [show i / 2 * 2 = i by omega] at this
    rw [this, h0, e]
    rfl
  · have := encs_get1 d.toList (i / 2) hj
    rw [show i / 2 * 2 + 1 = i by omega] at this
    rw [this, h1, e]
    rfl
theorem holds_of_own {w : World} {base g cap n : Nat} {xs : List Sp} (h : Own w base (.slice (some ⟨g, 0, none⟩) n cap) xs) : HoldsK enc 2 w g 0 xs.toArray := by
  intro j hj
  rw [size_flatK] at hj
  have hg : ∃ cur, w.heap[g]? = some (.cells cur 102 (0, 0)) ∧ cur.toList.take (xs.length * 2) = encs xs := by
    rcases h.2 with ⟨hv, _⟩ | ⟨g', cap', cur, hv, hb, hg, hnc, hcm, hcs, ht⟩
    · cases hv
    · cases hv; exact ⟨cur, hg, ht⟩
  obtain ⟨cur, hg, ht⟩ := hg
  refine ⟨?_, by simp [World.frozen?, hg]⟩
  have := flat_get xs.toArray j hj
  rw [Nat.zero_add, cell_of_row w g j _ _ _ hg, ← Array.getElem?_toList, show (id (flatK enc 2 xs.toArray)[j]! : Value) = (flatK enc 2 xs.toArray)[j]! from rfl, ← this, ← ht, List.getElem?_take_of_lt (by simpa using hj)]
theorem own_of_put {w : World} {base g cap n m : Nat} {xs : List Sp} {d : Array Sp} {os : Array Obj} (h : Own w base (.slice (some ⟨g, 0, none⟩) n cap) xs) (hd : d.size = xs.length) :
    Own (sortWorldK enc 2 w g 0 m d os) base (.slice (some ⟨g, 0, none⟩) n cap) d.toList := by
  rcases h.2 with ⟨hv, _⟩ | ⟨g', cap', cur, hv, hb, hg, hnc, hcm, hcs, ht⟩
  · cases hv
  · cases hv
    refine ⟨by rw [encs_length], .inr ⟨g, cap, Go.Sort.putCells id 0 (flatK enc 2 d) cur, by simp [hd], hb, ?_, by simpa [hd] using hnc, hcm, by simp [Go.Sort.putCells, hcs], ?_⟩⟩
    · unfold sortWorldK
      rw [Go.Sort.heap_grow_old _ _ (by simp [putRowK]; exact (Array.getElem?_eq_some_iff.1 hg).1)]
      simp [putRowK, Go.Sort.putRow, Go.Sort.mapBlock, Array.getElem?_modify, hg, Go.Sort.onCells]
    · apply List.ext_getElem?
      intro i
      by_cases hi : i < d.size * 2
      · rw [List.getElem?_take_of_lt (by simpa using hi), flat_get d i hi, Array.getElem?_toList]
        simp only [Go.Sort.putCells, Array.getElem?_mapIdx]
        rw [Array.getElem?_eq_getElem (by omega)]
        simp [hi]
      · rw [List.getElem?_eq_none (by simp; omega), List.getElem?_eq_none (by rw [encs_length]; simp; omega)]
theorem below_put {w : World} {base g m : Nat} {d : Array Sp} {os : Array Obj} (hb : base ≤ g) (hg : g < w.heap.size) : Below base w (sortWorldK enc 2 w g 0 m d os) := by
  refine ⟨rfl, rfl, rfl, by simp [sortWorldK, putRowK], fun k hk => ?_⟩
  unfold sortWorldK
  rw [Go.Sort.heap_grow_old _ _ (by simp [putRowK]; omega)]
  simp only [putRowK, Go.Sort.putRow, Go.Sort.mapBlock, Array.getElem?_modify]
  rw [if_neg (by omega)]
  rfl

/-- THE SORT: a row that is owned holds the same spans, the lowest First first. -/
theorem sort_any {w : World} {base : Nat} {v : Value} {xs : List Sp} (h : Own w base v xs) (hl : xs.length ≤ 1099511627776) :
    Calls Try.prog 40 #[v, .func (.func 41) #[] #[]] w fun e w' => e = .returned (.tuple #[]) ∧ ∃ ys, Own w' base v ys ∧ ys.Perm xs ∧ ys.Pairwise (fun x y => x.1 ≤ y.1) ∧ Below base w w' := by
  rcases h.2 with ⟨rfl, h0⟩ | ⟨g, cap, cur, rfl, hb, hg, hnc, hcm, hcs, ht⟩
  · obtain rfl := List.eq_nil_of_length_eq_zero h0
    have := AnyF.slices_SortFunc_none { sortU64 with } none 0 (.func (.func 41) #[] #[]) w
    refine Calls.mono this ?_
    rintro e w' ⟨rfl, rfl⟩
    exact ⟨rfl, [], h, List.Perm.refl _, List.Pairwise.nil, Below.refl _ _⟩
  · have hgl := (Array.getElem?_eq_some_iff.1 hg).1
    have := AnyQ.slices_SortFunc sortU64 2 Try.isAgg102 Try.sizeOf102 enc (fun _ => rfl) (fun x v hv => by simp only [enc, List.mem_cons, List.not_mem_nil, or_false] at hv; rcases hv with rfl | rfl <;> rfl) cmpS swoS 41 #[] g 0 cap xs.toArray w (enters_of Try.func41 (by kernel_rfl) rfl) (fun _ _ _ _ x y => of1_any x y _) (holds_of_own h) hgl (by simp; omega)
    refine Calls.mono this ?_
    rintro e w' ⟨rfl, d', n, os, hp, hs, rfl⟩
    have hsz : d'.size = xs.length := by simpa using hp.1
    refine ⟨rfl, d'.toList, own_of_put h hsz, ?_, ?_, below_put hb hgl⟩
    · have hq : (List.take xs.length d'.toList).Perm xs := by simpa [hsz] using hp.2.2
      rwa [List.take_of_length_le (by simp [hsz])] at hq
    · rw [List.pairwise_iff_getElem]
      intro i j hi hj hij
      have := hs i j (Nat.zero_le _) hij (by simpa [hsz] using hj)
      rw [ltS] at this
      rw [getElem!_pos d' i (by simpa using hi), getElem!_pos d' j (by simpa using hj)] at this
      simpa using this
end Go.Proofs.Ytehedllcdpjebaa.U64
