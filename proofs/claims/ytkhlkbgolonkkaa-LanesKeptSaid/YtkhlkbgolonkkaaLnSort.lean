/- Lanes: the library's sort of jobs by their release. Own work. -/
import Derived.Test.YtkhlkbgolonkkaaLnPush
import Derived.Test.YtkhlkbgolonkkaaShelfJob
namespace Go.Proofs.Ytkhlkbgolonkkaa
open Go.RowKit Go.Shelf
open Go.Sort hiding Below
instance : Inhabited J4 := ⟨⟨0, 0, 0, 0⟩⟩
theorem isNaNJ (x : Int) (W : World) : Calls Try.prog 47 #[.int .i64 x] W fun e w' => e = .returned (.bool false) ∧ w' = W := by
  go_enter Try.func47, Try.ntmps47
  go_wp2
  go_ret
  exact ⟨by simp, rfl⟩
def cmpI (x y : Int) : Int := if x < y then -1 else if y < x then 1 else 0
set_option maxHeartbeats 1000000 in
theorem compareJ (x y : Int) (W : World) : Calls Try.prog 42 #[.int .i64 x, .int .i64 y] W fun e w' => e = .returned (.int .i64 (cmpI x y)) ∧ w' = W := by
  by_cases h1 : x < y
  · have e : cmpI x y = -1 := by simp [cmpI, h1]
    rw [e]
    go_enter Try.func42, Try.ntmps42
    go_wp2_with (go_at_call 47; refine (isNaNJ _ _).mono ?_; rintro e w' ⟨rfl, rfl⟩)
    go_ret
    exact ⟨rfl, rfl⟩
  · by_cases h2 : y < x
    · have e : cmpI x y = 1 := by simp [cmpI, h1, h2]
      rw [e]
      go_enter Try.func42, Try.ntmps42
      go_wp2_with (go_at_call 47; refine (isNaNJ _ _).mono ?_; rintro e w' ⟨rfl, rfl⟩)
      go_ret
      exact ⟨rfl, rfl⟩
    · have e : cmpI x y = 0 := by simp [cmpI, h1, h2]
      rw [e]
      go_enter Try.func42, Try.ntmps42
      go_wp2_with (go_at_call 47; refine (isNaNJ _ _).mono ?_; rintro e w' ⟨rfl, rfl⟩)
      go_ret
      exact ⟨rfl, rfl⟩
def cmpJ (x y : J4) : Int := cmpI x.r y.r
set_option maxHeartbeats 1000000 in
theorem jobs1_any (x y : J4) (W : World) : Calls Try.prog 41 #[.agg #[.int .i64 x.n, .int .i64 x.r, .int .i64 x.d, .int .i64 x.l], .agg #[.int .i64 y.n, .int .i64 y.r, .int .i64 y.d, .int .i64 y.l]] W fun e w' => e = .returned (.int .i64 (cmpJ x y)) ∧ ∃ q os', w' = Go.Sort.grow (W.drewN q) os' := by
  have hcon := fun W' => compareJ x.r y.r W'
  unfold cmpJ
  generalize cmpI x.r y.r = r at hcon ⊢
  go_enter Try.func41, Try.ntmps41
  go_wp2_with (go_at_call 42; refine (hcon _).mono ?_; rintro e w' ⟨rfl, rfl⟩)
  go_ret
  exact ⟨rfl, 0, _, by rw [Go.Sort.alloc_eq_grow, Go.Sort.alloc_eq_grow, Go.Sort.grow_grow]; rfl⟩
theorem ltJ (x y : J4) : ltOf cmpJ x y = decide (x.r < y.r) := by
  unfold ltOf cmpJ cmpI
  by_cases h1 : x.r < y.r
  · simp [h1]
  · by_cases h2 : y.r < x.r <;> simp [h1, h2]
theorem swoJ : Go.Sort.SWO (ltOf cmpJ) where
  irrefl x := by rw [ltJ]; simp
  trans x y z h1 h2 := by rw [ltJ] at *; simp at *; omega
  ntrans x y z h1 h2 := by rw [ltJ] at *; simp at *; omega
theorem flat4_get (d : Array J4) (i : Nat) (h : i < d.size * 4) : (enc4s d.toList)[i]? = some (flatK enc4 4 d)[i]! := by
  rw [get_flatK enc4 4 d i h]
  have hj : i / 4 < d.toList.length := by simp; omega
  have e : d.toList[i / 4] = d[i / 4]! := by
    rw [getElem!_pos d (i / 4) (by omega)]; simp
  have h1 := enc4s_get d.toList (i / 4) (i % 4) hj (by omega)
  rw [show i / 4 * 4 + i % 4 = i by omega] at h1
  rw [h1, e]
  have h4 : i % 4 < 4 := by omega
  generalize i % 4 = q at h4 ⊢
  match q, h4 with
  | 0, _ => rfl
  | 1, _ => rfl
  | 2, _ => rfl
  | 3, _ => rfl
theorem holds_of_ownJ {w : World} {base g cap n : Nat} {xs : List J4} (h : OwnJ w base (.slice (some ⟨g, 0, none⟩) n cap) xs) : HoldsK enc4 4 w g 0 xs.toArray := by
  intro j hj
  rw [size_flatK] at hj
  have hg : ∃ cur, w.heap[g]? = some (.cells cur 86 (0, 0)) ∧ cur.toList.take (xs.length * 4) = enc4s xs := by
    rcases h.2 with ⟨hv, _⟩ | ⟨g', cap', cur, hv, hb, hg, hnc, hcm, hcs, ht⟩
    · cases hv
    · cases hv; exact ⟨cur, hg, ht⟩
  obtain ⟨cur, hg, ht⟩ := hg
  refine ⟨?_, by simp [World.frozen?, hg]⟩
  have := flat4_get xs.toArray j hj
  rw [Nat.zero_add, cell_of_row w g j _ _ _ hg, ← Array.getElem?_toList, show (id (flatK enc4 4 xs.toArray)[j]! : Value) = (flatK enc4 4 xs.toArray)[j]! from rfl, ← this, ← ht, List.getElem?_take_of_lt (by simpa using hj)]
theorem ownJ_of_put {w : World} {base g cap n m : Nat} {xs : List J4} {d : Array J4} {os : Array Obj} (h : OwnJ w base (.slice (some ⟨g, 0, none⟩) n cap) xs) (hd : d.size = xs.length) :
    OwnJ (sortWorldK enc4 4 w g 0 m d os) base (.slice (some ⟨g, 0, none⟩) n cap) d.toList := by
  rcases h.2 with ⟨hv, _⟩ | ⟨g', cap', cur, hv, hb, hg, hnc, hcm, hcs, ht⟩
  · cases hv
  · cases hv
    refine ⟨by rw [enc4s_length], .inr ⟨g, cap, Go.Sort.putCells id 0 (flatK enc4 4 d) cur, by simp [hd], hb, ?_, by simpa [hd] using hnc, hcm, by simp [Go.Sort.putCells, hcs], ?_⟩⟩
    · unfold sortWorldK
      rw [Go.Sort.heap_grow_old _ _ (by simp [putRowK]; exact (Array.getElem?_eq_some_iff.1 hg).1)]
      simp [putRowK, Go.Sort.putRow, Go.Sort.mapBlock, Array.getElem?_modify, hg, Go.Sort.onCells]
    · apply List.ext_getElem?
      intro i
      by_cases hi : i < d.size * 4
      · rw [List.getElem?_take_of_lt (by simpa using hi), flat4_get d i hi, Array.getElem?_toList]
        simp only [Go.Sort.putCells, Array.getElem?_mapIdx]
        rw [Array.getElem?_eq_getElem (by omega)]
        simp [hi]
      · rw [List.getElem?_eq_none (by simp; omega), List.getElem?_eq_none (by rw [enc4s_length]; simp; omega)]
theorem below_putJ {w : World} {base g m : Nat} {d : Array J4} {os : Array Obj} (hb : base ≤ g) (hg : g < w.heap.size) : Below base w (sortWorldK enc4 4 w g 0 m d os) := by
  refine ⟨rfl, rfl, rfl, by simp [sortWorldK, putRowK], fun k hk => ?_⟩
  unfold sortWorldK
  rw [Go.Sort.heap_grow_old _ _ (by simp [putRowK]; omega)]
  simp only [putRowK, Go.Sort.putRow, Go.Sort.mapBlock, Array.getElem?_modify]
  rw [if_neg (by omega)]
  rfl
/-- the sort: a row that is owned holds the same jobs, the first release first -/
theorem sortJ_any {w : World} {base : Nat} {v : Value} {xs : List J4} (h : OwnJ w base v xs) (hl : xs.length ≤ 1099511627776) :
    Calls Try.prog 40 #[v, .func (.func 41) #[] #[]] w fun e w' => e = .returned (.tuple #[]) ∧ ∃ ys, OwnJ w' base v ys ∧ ys.Perm xs ∧ ys.Pairwise (fun x y => x.r ≤ y.r) ∧ Below base w w' := by
  rcases h.2 with ⟨rfl, h0⟩ | ⟨g, cap, cur, rfl, hb, hg, hnc, hcm, hcs, ht⟩
  · obtain rfl := List.eq_nil_of_length_eq_zero h0
    have := AnyF.slices_SortFunc_none { sortJob with } none 0 (.func (.func 41) #[] #[]) w
    refine Calls.mono this ?_
    rintro e w' ⟨rfl, rfl⟩
    exact ⟨rfl, [], h, List.Perm.refl _, List.Pairwise.nil, Below.refl _ _⟩
  · have hgl := (Array.getElem?_eq_some_iff.1 hg).1
    have := AnyQ.slices_SortFunc sortJob 4 Try.isAgg86 Try.sizeOf86 enc4 (fun _ => rfl) (fun x v hv => enc4_one x v hv) cmpJ swoJ 41 #[] g 0 cap xs.toArray w (enters_of Try.func41 (by kernel_rfl) rfl) (fun _ _ _ _ x y => jobs1_any x y _) (holds_of_ownJ h) hgl (by simp; omega)
    refine Calls.mono this ?_
    rintro e w' ⟨rfl, d', n, os, hp, hs, rfl⟩
    have hsz : d'.size = xs.length := by simpa using hp.1
    refine ⟨rfl, d'.toList, ownJ_of_put h hsz, ?_, ?_, below_putJ hb hgl⟩
    · have hq : (List.take xs.length d'.toList).Perm xs := by simpa [hsz] using hp.2.2
      rwa [List.take_of_length_le (by simp [hsz])] at hq
    · rw [List.pairwise_iff_getElem]
      intro i j hi hj hij
      have := hs i j (Nat.zero_le _) hij (by simpa [hsz] using hj)
      rw [ltJ] at this
      rw [getElem!_pos d' i (by simpa using hi), getElem!_pos d' j (by simpa using hj)] at this
      simpa using this
end Go.Proofs.Ytkhlkbgolonkkaa
