import Derived.Shelf.SlicesE.Clone
import Derived.Shelf.SlSortCmp.WholeK
import Derived.Shelf.SlSortCmp.NoneTotal
import Derived.Shelf.SlicesQ.Equal
import Derived.Test.YtlndphdgodmgpaaGreatProg
import Derived.Test.YtlndphdgodmgpaaGreatPkATy
import Derived.Test.YtlndphdgodmgpaaGreatPkM
import Derived.Deep.RegionHeld3
/- Contracts of the library, laid at this program: in plain words, by a program. -/
namespace Go.Proofs.YtlndphdgodmgpaaGreat
open Go.Shelf
def cloneTy_ren : Go.Shelf.Ren := ⟨fun | 41 => 235 | n => n, fun | 22 => 120 | 23 => 126 | 4 => 4 | n => n, fun | n => n⟩
theorem cloneTy : Go.Proofs.SlLaysE0.n41 Tryz.prog cloneTy_ren := {
  mixed := by kernel_rfl
  f41 := ⟨Tryz.f235.name, by decide, Tryz.func235.trans (congrArg some (by kernel_rfl))⟩
  t4 := Tryz.underlying4
  a4 := Tryz.isAgg4
  z4 := Tryz.sizeOf4
  v4 := Tryz.zeroValue4
  t22 := Tryz.underlying120
  a22 := Tryz.isAgg120
  z22 := Tryz.sizeOf120
  v22 := Tryz.zeroValue120 }
def sortTy_ren : Go.Shelf.Ren := ⟨fun | 6 => 236 | 15 => 149 | 14 => 303 | 28 => 250 | 29 => 251 | 20 => 325 | 21 => 326 | 22 => 327 | 23 => 328 | 24 => 329 | 25 => 330 | 26 => 331 | 27 => 332 | 46 => 344 | 47 => 307 | 48 => 308 | 49 => 345 | 50 => 346 | 57 => 350 | n => n, fun | 22 => 120 | 24 => 126 | 25 => 264 | 3 => 3 | 39 => 111 | 0 => 0 | 53 => 64 | 55 => 25 | 4 => 4 | 46 => 268 | 45 => 267 | 50 => 272 | 5 => 5 | 9 => 9 | 66 => 306 | 70 => 309 | 76 => 325 | 77 => 326 | n => n, fun | n => n⟩
theorem sortTy : Go.Proofs.SlLaysF0.n6 Tryz.prog sortTy_ren := {
  mixed := by kernel_rfl
  f6 := ⟨Tryz.f236.name, by decide, Tryz.func236.trans (congrArg some (by kernel_rfl))⟩
  f14 := ⟨Tryz.f303.name, by decide, Tryz.func303.trans (congrArg some (by kernel_rfl))⟩
  f15 := Tryz.func149.trans (congrArg some (by kernel_rfl))
  f20 := ⟨Tryz.f325.name, by decide, Tryz.func325.trans (congrArg some (by kernel_rfl))⟩
  f21 := ⟨Tryz.f326.name, by decide, Tryz.func326.trans (congrArg some (by kernel_rfl))⟩
  f22 := ⟨Tryz.f327.name, by decide, Tryz.func327.trans (congrArg some (by kernel_rfl))⟩
  f23 := ⟨Tryz.f328.name, by decide, Tryz.func328.trans (congrArg some (by kernel_rfl))⟩
  f24 := ⟨Tryz.f329.name, by decide, Tryz.func329.trans (congrArg some (by kernel_rfl))⟩
  f25 := ⟨Tryz.f330.name, by decide, Tryz.func330.trans (congrArg some (by kernel_rfl))⟩
  f26 := ⟨Tryz.f331.name, by decide, Tryz.func331.trans (congrArg some (by kernel_rfl))⟩
  f27 := ⟨Tryz.f332.name, by decide, Tryz.func332.trans (congrArg some (by kernel_rfl))⟩
  f28 := Tryz.func250.trans (congrArg some (by kernel_rfl))
  f29 := Tryz.func251.trans (congrArg some (by kernel_rfl))
  f46 := ⟨Tryz.f344.name, by decide, Tryz.func344.trans (congrArg some (by kernel_rfl))⟩
  f47 := Tryz.func307.trans (congrArg some (by kernel_rfl))
  f48 := Tryz.func308.trans (congrArg some (by kernel_rfl))
  f49 := ⟨Tryz.f345.name, by decide, Tryz.func345.trans (congrArg some (by kernel_rfl))⟩
  f50 := ⟨Tryz.f346.name, by decide, Tryz.func346.trans (congrArg some (by kernel_rfl))⟩
  f57 := ⟨Tryz.f350.name, by decide, Tryz.func350.trans (congrArg some (by kernel_rfl))⟩
  t0 := Tryz.underlying0
  a0 := Tryz.isAgg0
  z0 := Tryz.sizeOf0
  v0 := Tryz.zeroValue0
  t3 := Tryz.underlying3
  a3 := Tryz.isAgg3
  z3 := Tryz.sizeOf3
  v3 := Tryz.zeroValue3
  t4 := Tryz.underlying4
  a4 := Tryz.isAgg4
  z4 := Tryz.sizeOf4
  v4 := Tryz.zeroValue4
  t5 := Tryz.underlying5
  a5 := Tryz.isAgg5
  z5 := Tryz.sizeOf5
  v5 := Tryz.zeroValue5
  t9 := Tryz.underlying9
  a9 := Tryz.isAgg9
  z9 := Tryz.sizeOf9
  v9 := Tryz.zeroValue9
  t22 := Tryz.underlying120
  a22 := Tryz.isAgg120
  z22 := Tryz.sizeOf120
  v22 := Tryz.zeroValue120
  t25 := Tryz.underlying264
  a25 := Tryz.isAgg264
  z25 := Tryz.sizeOf264
  v25 := Tryz.zeroValue264
  t39 := Tryz.underlying111
  a39 := Tryz.isAgg111
  z39 := Tryz.sizeOf111
  v39 := Tryz.zeroValue111
  t45 := Tryz.underlying267
  a45 := Tryz.isAgg267
  z45 := Tryz.sizeOf267
  v45 := Tryz.zeroValue267
  t46 := Tryz.underlying268
  a46 := Tryz.isAgg268
  z46 := Tryz.sizeOf268
  v46 := Tryz.zeroValue268
  t50 := Tryz.underlying272
  a50 := Tryz.isAgg272
  z50 := Tryz.sizeOf272
  v50 := Tryz.zeroValue272
  t53 := Tryz.underlying64
  a53 := Tryz.isAgg64
  z53 := Tryz.sizeOf64
  v53 := Tryz.zeroValue64
  t55 := Tryz.underlying25
  a55 := Tryz.isAgg25
  z55 := Tryz.sizeOf25
  v55 := Tryz.zeroValue25
  t66 := Tryz.underlying306
  a66 := Tryz.isAgg306
  z66 := Tryz.sizeOf306
  v66 := Tryz.zeroValue306
  t70 := Tryz.underlying309
  a70 := Tryz.isAgg309
  z70 := Tryz.sizeOf309
  v70 := Tryz.zeroValue309
  t76 := Tryz.underlying325
  a76 := Tryz.isAgg325
  z76 := Tryz.sizeOf325
  v76 := Tryz.zeroValue325
  t77 := Tryz.underlying326
  a77 := Tryz.isAgg326
  z77 := Tryz.sizeOf326
  v77 := Tryz.zeroValue326 }
def equalTy_ren : Go.Shelf.Ren := ⟨fun | 8 => 232 | n => n, fun | 22 => 120 | 24 => 126 | 4 => 4 | 3 => 3 | 0 => 0 | n => n, fun | n => n⟩
theorem equalTy : Go.Proofs.SlLaysQ.n8 Tryz.prog equalTy_ren := {
  mixed := by kernel_rfl
  f8 := ⟨Tryz.f232.name, by decide, Tryz.func232.trans (congrArg some (by kernel_rfl))⟩
  t0 := Tryz.underlying0
  a0 := Tryz.isAgg0
  z0 := Tryz.sizeOf0
  v0 := Tryz.zeroValue0
  t3 := Tryz.underlying3
  a3 := Tryz.isAgg3
  z3 := Tryz.sizeOf3
  v3 := Tryz.zeroValue3
  t4 := Tryz.underlying4
  a4 := Tryz.isAgg4
  z4 := Tryz.sizeOf4
  v4 := Tryz.zeroValue4
  t22 := Tryz.underlying120
  a22 := Tryz.isAgg120
  z22 := Tryz.sizeOf120
  v22 := Tryz.zeroValue120 }
end Go.Proofs.YtlndphdgodmgpaaGreat
/- The library's sort of a row of spans that is owned. Own work. -/
namespace Go.Proofs.YtlndphdgodmgpaaGreat.Ty
open Go.RowKit Go.Shelf Go.Proofs.YtlndphdgodmgpaaGreat.Sp
open Go.Sort hiding Below

theorem isNaN_any (x : Int) (W : World) : Calls Tryz.prog 304 #[.int .u8 x] W fun e w' => e = .returned (.bool false) ∧ w' = W := by
  go_enter Tryz.func304, Tryz.ntmps304
  go_wp2
  go_ret
  exact ⟨by simp, rfl⟩
def cmpI (x y : Int) : Int := if x < y then -1 else if y < x then 1 else 0
set_option maxHeartbeats 1000000 in
theorem compare_any (x y : Int) (W : World) : Calls Tryz.prog 238 #[.int .u8 x, .int .u8 y] W fun e w' => e = .returned (.int .i64 (cmpI x y)) ∧ w' = W := by
  by_cases h1 : x < y
  · have e : cmpI x y = -1 := by simp [cmpI, h1]
    rw [e]
    go_enter Tryz.func238, Tryz.ntmps238
    go_wp2_with (go_at_call 304; refine (isNaN_any _ _).mono ?_; rintro e w' ⟨rfl, rfl⟩)
    go_ret
    exact ⟨rfl, rfl⟩
  · by_cases h2 : y < x
    · have e : cmpI x y = 1 := by simp [cmpI, h1, h2]
      rw [e]
      go_enter Tryz.func238, Tryz.ntmps238
      go_wp2_with (go_at_call 304; refine (isNaN_any _ _).mono ?_; rintro e w' ⟨rfl, rfl⟩)
      go_ret
      exact ⟨rfl, rfl⟩
    · have e : cmpI x y = 0 := by simp [cmpI, h1, h2]
      rw [e]
      go_enter Tryz.func238, Tryz.ntmps238
      go_wp2_with (go_at_call 304; refine (isNaN_any _ _).mono ?_; rintro e w' ⟨rfl, rfl⟩)
      go_ret
      exact ⟨rfl, rfl⟩
def cmpS (x y : Sp) : Int := cmpI x.1 y.1
set_option maxHeartbeats 1000000 in
theorem of1_any (x y : Sp) (W : World) : Calls Tryz.prog 237 #[.agg #[.int .u8 x.1, .int .u8 x.2], .agg #[.int .u8 y.1, .int .u8 y.2]] W fun e w' => e = .returned (.int .i64 (cmpS x y)) ∧ ∃ q os', w' = Go.Sort.grow (W.drewN q) os' := by
  have hcon := fun W' => compare_any x.1 y.1 W'
  unfold cmpS
  generalize cmpI x.1 y.1 = r at hcon ⊢
  go_enter Tryz.func237, Tryz.ntmps237
  go_wp2_with (go_at_call 238; refine (hcon _).mono ?_; rintro e w' ⟨rfl, rfl⟩)
  go_ret
  exact ⟨rfl, 0, _, by rw [Go.Sort.alloc_eq_grow, Go.Sort.alloc_eq_grow, Go.Sort.grow_grow]; rfl⟩
theorem ltS (x y : Sp) : ltOf cmpS x y = decide (x.1 < y.1) := by
  unfold ltOf cmpS cmpI
  by_cases h1 : x.1 < y.1
  · simp [h1]
  · by_cases h2 : y.1 < x.1 <;> simp [h1, h2]
theorem swoS : Go.Sort.SWO (ltOf cmpS) where
  irrefl x := by rw [ltS]; simp
  trans x y z h1 h2 := by rw [ltS] at *; simp at *; omega
  ntrans x y z h1 h2 := by rw [ltS] at *; simp at *; omega

theorem flat_get (d : Array Sp) (i : Nat) (h : i < d.size * 2) : (encs d.toList)[i]? = some (flatK enc 2 d)[i]! := by
  rw [get_flatK enc 2 d i h]
  have hj : i / 2 < d.toList.length := by simp; omega
  have e : d.toList[i / 2] = d[i / 2]! := by
    rw [getElem!_pos d (i / 2) (by omega)]; simp
  rcases Nat.mod_two_eq_zero_or_one i with h0 | h1
  · have := encs_get0 d.toList (i / 2) hj
    rw [show i / 2 * 2 = i by omega] at this
    rw [this, h0, e]
    rfl
  · have := encs_get1 d.toList (i / 2) hj
    rw [show i / 2 * 2 + 1 = i by omega] at this
    rw [this, h1, e]
    rfl
theorem holds_of_own {w : World} {base g cap n : Nat} {xs : List Sp} (h : Own w base (.slice (some ⟨g, 0, none⟩) n cap) xs) : HoldsK enc 2 w g 0 xs.toArray := by
  intro j hj
  rw [size_flatK] at hj
  have hg : ∃ cur, w.heap[g]? = some (.cells cur 126 (0, 0)) ∧ cur.toList.take (xs.length * 2) = encs xs := by
    rcases h.2 with ⟨hv, _⟩ | ⟨g', cap', cur, hv, hb, hg, hnc, hcm, hcs, ht⟩
    · cases hv
    · cases hv; exact ⟨cur, hg, ht⟩
  obtain ⟨cur, hg, ht⟩ := hg
  refine ⟨?_, by simp [World.frozen?, hg]⟩
  have := flat_get xs.toArray j hj
  rw [Nat.zero_add, cell_of_row w g j _ _ _ hg, ← Array.getElem?_toList, show (id (flatK enc 2 xs.toArray)[j]! : Value) = (flatK enc 2 xs.toArray)[j]! from rfl, ← this, ← ht, List.getElem?_take_of_lt (by simpa using hj)]
theorem own_of_put {w : World} {base g cap n m : Nat} {xs : List Sp} {d : Array Sp} {os : Array Obj} (h : Own w base (.slice (some ⟨g, 0, none⟩) n cap) xs) (hd : d.size = xs.length) :
    Own (sortWorldK enc 2 w g 0 m d os) base (.slice (some ⟨g, 0, none⟩) n cap) d.toList := by
  rcases h.2 with ⟨hv, _⟩ | ⟨g', cap', cur, hv, hb, hg, hnc, hcm, hcs, ht⟩
  · cases hv
  · cases hv
    refine ⟨by rw [encs_length], .inr ⟨g, cap, Go.Sort.putCells id 0 (flatK enc 2 d) cur, by simp [hd], hb, ?_, by simpa [hd] using hnc, hcm, by simp [Go.Sort.putCells, hcs], ?_⟩⟩
    · unfold sortWorldK
      rw [Go.Sort.heap_grow_old _ _ (by simp [putRowK]; exact (Array.getElem?_eq_some_iff.1 hg).1)]
      simp [putRowK, Go.Sort.putRow, Go.Sort.mapBlock, Array.getElem?_modify, hg, Go.Sort.onCells]
    · apply List.ext_getElem?
      intro i
      by_cases hi : i < d.size * 2
      · rw [List.getElem?_take_of_lt (by simpa using hi), flat_get d i hi, Array.getElem?_toList]
        simp only [Go.Sort.putCells, Array.getElem?_mapIdx]
        rw [Array.getElem?_eq_getElem (by omega)]
        simp [hi]
      · rw [List.getElem?_eq_none (by simp; omega), List.getElem?_eq_none (by rw [encs_length]; simp; omega)]
theorem below_put {w : World} {base g m : Nat} {d : Array Sp} {os : Array Obj} (hb : base ≤ g) (hg : g < w.heap.size) : Below base w (sortWorldK enc 2 w g 0 m d os) := by
  refine ⟨rfl, rfl, rfl, by simp [sortWorldK, putRowK], fun k hk => ?_⟩
  unfold sortWorldK
  rw [Go.Sort.heap_grow_old _ _ (by simp [putRowK]; omega)]
  simp only [putRowK, Go.Sort.putRow, Go.Sort.mapBlock, Array.getElem?_modify]
  rw [if_neg (by omega)]
  rfl

/-- THE SORT: a row that is owned holds the same spans, the lowest First first. -/
theorem sort_any {w : World} {base : Nat} {v : Value} {xs : List Sp} (h : Own w base v xs) (hl : xs.length ≤ 1099511627776) :
    Calls Tryz.prog 236 #[v, .func (.func 237) #[] #[]] w fun e w' => e = .returned (.tuple #[]) ∧ ∃ ys, Own w' base v ys ∧ ys.Perm xs ∧ ys.Pairwise (fun x y => x.1 ≤ y.1) ∧ Below base w w' := by
  rcases h.2 with ⟨rfl, h0⟩ | ⟨g, cap, cur, rfl, hb, hg, hnc, hcm, hcs, ht⟩
  · obtain rfl := List.eq_nil_of_length_eq_zero h0
    have := AnyF.slices_SortFunc_none { sortTy with } none 0 (.func (.func 237) #[] #[]) w
    refine Calls.mono this ?_
    rintro e w' ⟨rfl, rfl⟩
    exact ⟨rfl, [], h, List.Perm.refl _, List.Pairwise.nil, Below.refl _ _⟩
  · have hgl := (Array.getElem?_eq_some_iff.1 hg).1
    have := AnyQ.slices_SortFunc sortTy 2 Tryz.isAgg126 Tryz.sizeOf126 enc (fun _ => rfl) (fun x v hv => by simp only [enc, List.mem_cons, List.not_mem_nil, or_false] at hv; rcases hv with rfl | rfl <;> rfl) cmpS swoS 237 #[] g 0 cap xs.toArray w (enters_of Tryz.func237 (by kernel_rfl) rfl) (fun _ _ _ _ x y => of1_any x y _) (holds_of_own h) hgl (by simp; omega)
    refine Calls.mono this ?_
    rintro e w' ⟨rfl, d', n, os, hp, hs, rfl⟩
    have hsz : d'.size = xs.length := by simpa using hp.1
    refine ⟨rfl, d'.toList, own_of_put h hsz, ?_, ?_, below_put hb hgl⟩
    · have hq : (List.take xs.length d'.toList).Perm xs := by simpa [hsz] using hp.2.2
      rwa [List.take_of_length_le (by simp [hsz])] at hq
    · rw [List.pairwise_iff_getElem]
      intro i j hi hj hij
      have := hs i j (Nat.zero_le _) hij (by simpa [hsz] using hj)
      rw [ltS] at this
      rw [getElem!_pos d' i (by simpa using hi), getElem!_pos d' j (by simpa using hj)] at this
      simpa using this
end Go.Proofs.YtlndphdgodmgpaaGreat.Ty
/- Clone, Spans, Of. Own work. -/
namespace Go.Proofs.YtlndphdgodmgpaaGreat.Ty
open Go.RowKit Go.Shelf Go.Proofs.YtlndphdgodmgpaaGreat.Sp

theorem empty_any (x : Sp) (W : World) : Calls Tryz.prog 239 #[.agg #[.int .u8 x.1, .int .u8 x.2]] W fun e w' => e = .returned (.bool (decide (x.2 < x.1))) ∧ ∃ X, w' = W.alloc X := by
  go_enter Tryz.func239, Tryz.ntmps239
  go_wp2
  go_ret
  exact ⟨rfl, _, rfl⟩
theorem clone_any {w : World} {v : Value} {xs : List Sp} (hv : SV w v xs) (hl : xs.length ≤ 1099511627776) :
    Calls Tryz.prog 235 #[v] w fun e w' => ∃ v', e = .returned v' ∧ Own w' w.heap.size v' xs ∧ Below w.heap.size w w' := by
  obtain ⟨ao, cap, rfl, h1, h2, h3, h4, h5⟩ := hv
  cases ao with
  | none =>
    obtain ⟨rfl, rfl⟩ := h3 rfl
    have := AnyE.slices_Clone_nil cloneTy 0 0 w
    refine Calls.mono this ?_
    rintro e w' ⟨rfl, rfl⟩
    exact ⟨_, rfl, Own.nil _ _, Below.refl _ _⟩
  | some a =>
    obtain ⟨g, off, rfl, hg⟩ := h4 _ rfl
    obtain ⟨i, hi, hz0, hz1, hz2⟩ := info_parts info_span
    have := AnyE.slices_Clone cloneTy i (.agg #[.int .u8 0, .int .u8 0]) 2 (2 * 1) hi hz0 hz1 hz2 rfl (by omega) Tryz.sizeOf126 g off xs.length cap (encs xs) w (encs_length xs) (by unfold maxLen; omega) (by omega) (fun j u hj => by
      have hjl : j < xs.length * 2 := by rw [← encs_length]; exact (List.getElem?_eq_some_iff.1 hj).1
      obtain ⟨g', off', e', d0, d1⟩ := h5 (j / 2) (by omega)
      cases e'
      rcases Nat.mod_two_eq_zero_or_one j with q | q
      · have := encs_get0 xs (j / 2) (by omega)
        rw [show j / 2 * 2 = j by omega] at this d0
        rw [d0, ← this, hj]
      · have := encs_get1 xs (j / 2) (by omega)
        rw [show j / 2 * 2 + 1 = j by omega] at this
        rw [show off + j / 2 * 2 + 1 = off + j by omega] at d1
        rw [d1, ← this, hj]) (encs_one xs)
    refine Calls.mono this ?_
    rintro e w' ⟨v', rfl, ho, _, hb⟩
    exact ⟨v', rfl, ho, hb⟩

set_option maxHeartbeats 2000000 in
theorem of_any {w : World} {v : Value} {xs : List Sp} (hv : SV w v xs) (hf : Fits 255 xs) (hl : xs.length ≤ 1099511627776) :
    Calls Tryz.prog 137 #[v] w (SetPost w (OfR 255 xs)) := by
  have HC : Hid (∀ X, Calls Tryz.prog 235 #[v] (w.alloc X) fun e w' => ∃ v', e = .returned v' ∧ Own w' (w.alloc X).heap.size v' xs ∧ Below (w.alloc X).heap.size (w.alloc X) w') := fun X => clone_any (hv.alloc X) hl
  clear hv
  go_enter Tryz.func137, Tryz.ntmps137
  go_wp2_with fail
  refine (HC.out _).mono ?_
  rintro e w1 ⟨v1, rfl, ho1, hb1⟩
  have HO1 : Hid (Own w1 (w.heap.size + 1) v1 xs) := show Own w1 (w.heap.size + 1) v1 xs by simpa using ho1
  have HB1 : Hid (Below (w.heap.size + 1) (w.alloc (.cells #[.slice none 0 0] 122)) w1) := show Below (w.heap.size + 1) (w.alloc (.cells #[.slice none 0 0] 122)) w1 by simpa using hb1
  clear ho1 hb1 HC
  go_wp2_with fail
  refine (sort_any HO1.out hl).mono ?_
  rintro e W0 ⟨rfl, ys, ho2, hp2, hs2, hb2⟩
  obtain ⟨a1, c1, hv1⟩ : ∃ a c, v1 = .slice a ys.length c := by
    obtain ⟨a, c, e, _⟩ := ho2.sv
    exact ⟨a, c, e⟩
  subst hv1
  have HO2 : Hid (Own W0 (w.heap.size + 1) (.slice a1 ys.length c1) ys) := ho2
  have HR : Hid (∀ k, Canon 255 (ofRow [] (ys.take k)) ∧ (∀ p, In p (ofRow [] (ys.take k)) ↔ In p (ys.take k)) ∧ (ofRow [] (ys.take k)).length ≤ k) := fun k => ofRow_made hp2 hs2 hf k
  have HP : Hid (ys.Perm xs) := hp2
  have hyl : ys.length ≤ 1099511627776 := by rw [hp2.length_eq]; exact hl
  have HF : Hid (∀ x ∈ ys, 0 ≤ x.1 ∧ x.1 ≤ 255 ∧ 0 ≤ x.2 ∧ x.2 ≤ 255) := fun x hx => hf x (hp2.mem_iff.1 hx)
  have HB2 : Hid (Below (w.heap.size + 1) (w.alloc (.cells #[.slice none 0 0] 122)) W0) := HB1.out.trans hb2
  have HSz : Hid (w.heap.size + 1 ≤ W0.heap.size) := by have := HB2.out.size; simp at this; exact this
  clear ho2 hp2 hs2 hb2 HO1 HB1 hf
  go_wp2_with fail
  go_loopw [4, 13] (fun v i wr => ∃ k : Nat, k ≤ ys.length ∧ i = .int .i64 (k : Int) ∧ Hid (Own wr W0.heap.size v (ofRow [] (ys.take k))) ∧ Hid (Below W0.heap.size W0 wr)) (fun _ i _ => ys.length - (intOf i).toNat)
  case atStart => exact ⟨0, Nat.zero_le _, rfl, Own.nil _ _, Below.refl _ _⟩
  case round =>
    obtain ⟨k, hk, rfl, HO, HB⟩ := hrel
    by_cases hlt : k < ys.length
    · obtain ⟨ao, cap, e, _, _, _, _, h5⟩ := HO2.out.sv.below HB.out (Nat.le_refl _)
      cases e
      obtain ⟨g, off, rfl, d0, d1⟩ := h5 k hlt
      clear h5
      obtain ⟨x, hx⟩ : ∃ x, x = ys[k] := ⟨_, rfl⟩
      rw [← hx] at d0 d1
      have HX : Hid (x = ys[k]) := hx
      have hb := HF.out x (by rw [hx]; exact List.getElem_mem _)
      clear hx
      have HB3 : Hid (∀ X Y, Below W0.heap.size W0 ((wr.alloc X).alloc Y)) := fun X Y => (HB.out.alloc HB.out.size X).alloc (by have := HB.out.size; simp; omega) Y
      have HO3 : Hid (∀ X Y, Own ((wr.alloc X).alloc Y) W0.heap.size u4 (ofRow [] (ys.take k))) := fun X Y => (HO.out.alloc X).alloc Y
      go_wp2_with fail
      refine (empty_any x _).mono ?_
      rintro e w' ⟨rfl, Y, rfl⟩
      have d2 := cell_alloc' Y (new2 (W := wr) rfl (.int .u8 x.1) (.int .u8 x.2) 126).1
      have d3 := cell_alloc' Y (new2 (W := wr) rfl (.int .u8 x.1) (.int .u8 x.2) 126).2
      clear d0 d1
      by_cases he : x.2 < x.1
      · have hd : decide (x.2 < x.1) = true := decide_eq_true he
        rw [hd]
        go_wp2_with fail
        go_roundw
        case rel => exact ⟨k + 1, by omega, by go_num, (show Own _ _ _ _ by rw [ofRow_take hlt, ← HX.out, ofStep, if_pos he]; exact HO3.out _ _), HB3.out _ _⟩
        case measure => simp [intOf]; omega
      · have hd : decide (x.2 < x.1) = false := decide_eq_false he
        rw [hd]
        go_wp2_with fail
        refine (join_any (x := x) (HO3.out _ _) (HB3.out _ _).size (HR.out k).1 hb.2.1 (by have := (HR.out k).2.2; omega)).mono ?_
        rintro e w4 ⟨v4, rfl, ho4, hb4⟩
        have HO4 : Hid (Own w4 W0.heap.size v4 (ofRow [] (ys.take (k + 1)))) := show Own _ _ _ _ by rw [ofRow_take hlt, ← HX.out, ofStep, if_neg (show ¬ x.2 < x.1 by omega)]; exact ho4
        have HB4 : Hid (Below W0.heap.size W0 w4) := (HB3.out _ _).trans hb4
        clear ho4 hb4
        go_wp2_with fail
        go_roundw
        case rel => exact ⟨k + 1, by omega, by go_num, HO4.out, HB4.out⟩
        case measure => simp [intOf]; omega
    · obtain rfl : k = ys.length := by omega
      obtain ⟨a4, n4, c4, hv4⟩ : ∃ a n c, u4 = .slice a n c := by
        obtain ⟨a, c, e, _⟩ := HO.out.sv
        exact ⟨a, _, c, e⟩
      subst hv4
      have hbk : wr.heap[w.heap.size]? = some (.cells #[.slice none 0 0] 122) := by
        rw [HB.out.block _ (by have := HSz.out; omega), HB2.out.block _ (by omega)]
        exact heap_alloc_new w _
      have hce : wr.cell? ⟨w.heap.size, 0, none⟩ = some (.slice none 0 0) := by rw [cell_of_row _ _ 0 _ _ _ hbk]; rfl
      have hfe : wr.frozen? ⟨w.heap.size, 0, none⟩ = false := by simp [World.frozen?, hbk]
      clear hbk
      go_wp2_with fail
      have d0 := World.cell?_setCell_same' wr ⟨w.heap.size, 0, none⟩ (.slice a4 n4 c4) (by rw [hce]; rfl)
      refine bodyPost_ret (v := .agg #[.slice a4 n4 c4]) (by simp [results, Tryz.results137, go_sem, d0]) rfl ?_
      have hR := HR.out ys.length
      rw [List.take_length] at hR
      have hO := HO.out
      rw [List.take_length] at hO
      refine ⟨_, _, rfl, (hO.low (by have := HSz.out; omega) _ _).lower (by have := HSz.out; omega), ⟨hR.1, fun p => (hR.2.1 p).trans (in_perm HP.out p), by rw [← HP.out.length_eq]; exact hR.2.2⟩, ?_⟩
      exact ((((Below.refl _ _).alloc (Nat.le_refl _) _).trans (HB2.out.mono (by omega))).trans (HB.out.mono (by have := HSz.out; omega))).setCell (p := ⟨w.heap.size, 0, none⟩) (Nat.le_refl _) _
end Go.Proofs.YtlndphdgodmgpaaGreat.Ty
/- Spans; With, Without. Own work (made by a program). -/
namespace Go.Proofs.YtlndphdgodmgpaaGreat.Ty
open Go.RowKit Go.Shelf Go.Proofs.YtlndphdgodmgpaaGreat.Sp

set_option maxHeartbeats 1000000 in
theorem spans_any {w : World} {v : Value} {xs : List Sp} (hv : SV w v xs) (hl : xs.length ≤ 1099511627776) :
    Calls Tryz.prog 138 #[.agg #[v]] w fun e w' => ∃ v', e = .returned v' ∧ Own w' w.heap.size v' xs ∧ Below w.heap.size w w' := by
  have HC : Hid (∀ X, Calls Tryz.prog 235 #[v] (w.alloc X) fun e w' => ∃ v', e = .returned v' ∧ Own w' (w.alloc X).heap.size v' xs ∧ Below (w.alloc X).heap.size (w.alloc X) w') := fun X => clone_any (hv.alloc X) hl
  clear hv
  go_enter Tryz.func138, Tryz.ntmps138
  go_wp2_with fail
  refine (HC.out _).mono ?_
  rintro e w1 ⟨v1, rfl, ho1, hb1⟩
  have HO1 : Hid (Own w1 (w.heap.size + 1) v1 xs) := show Own w1 (w.heap.size + 1) v1 xs by simpa using ho1
  have HB1 : Hid (Below w.heap.size w w1) := ((Below.refl _ _).alloc (Nat.le_refl _) _).trans (hb1.mono (by simp))
  clear ho1 hb1 HC
  go_wp2_with fail
  go_ret
  exact ⟨_, rfl, HO1.out.lower (by omega), HB1.out⟩
/-- Three boxes: a set, a span, the result's. -/
theorem three_boxes (w : World) (vs : Value) (x : Sp) :
    ∃ W3, ((w.alloc (Obj.cells #[vs] 122)).alloc (Obj.cells #[Value.int IntKind.u8 x.1, Value.int IntKind.u8 x.2] 126)).alloc (Obj.cells #[Value.slice none 0 0] 122) = W3 ∧ W3.heap.size = w.heap.size + 1 + 1 + 1 ∧ Below w.heap.size w W3 ∧
      W3.cell? ⟨w.heap.size, 0, none⟩ = some vs ∧ W3.cell? ⟨w.heap.size + 1, 0, none⟩ = some (.int .u8 x.1) ∧ W3.cell? ⟨w.heap.size + 1, 1, none⟩ = some (.int .u8 x.2) ∧ W3.cell? ⟨w.heap.size + 1 + 1, 0, none⟩ = some (.slice none 0 0) ∧ W3.frozen? ⟨w.heap.size + 1 + 1, 0, none⟩ = false := by
  have e0 : ((w.alloc (Obj.cells #[vs] 122)).cell? ⟨w.heap.size, 0, none⟩) = some vs := by
    rw [cell_of_row _ _ 0 _ _ _ (heap_alloc_new w _)]; rfl
  have e1 := new2 (W := w.alloc (Obj.cells #[vs] 122)) (n := w.heap.size + 1) (by simp) (.int .u8 x.1) (.int .u8 x.2) 126
  have e2 := third_cell (w := w) (a := Obj.cells #[vs] 122) (b := Obj.cells #[Value.int IntKind.u8 x.1, Value.int IntKind.u8 x.2] 126) (v := .slice none 0 0) (t := 122) (Below.refl _ _)
  exact ⟨_, rfl, by simp, (((Below.refl _ _).alloc (Nat.le_refl _) _).alloc (by simp) _).alloc (by simp; omega) _, cell_alloc' _ (cell_alloc' _ e0), cell_alloc' _ e1.1, cell_alloc' _ e1.2, e2.1, e2.2⟩
/-- They lie as they were laid. -/
def Boxes (w W : World) (vs : Value) (x : Sp) : Prop :=
  W.cell? ⟨w.heap.size, 0, none⟩ = some vs ∧ W.cell? ⟨w.heap.size + 1, 0, none⟩ = some (.int .u8 x.1) ∧ W.cell? ⟨w.heap.size + 1, 1, none⟩ = some (.int .u8 x.2) ∧ W.cell? ⟨w.heap.size + 1 + 1, 0, none⟩ = some (.slice none 0 0) ∧ W.frozen? ⟨w.heap.size + 1 + 1, 0, none⟩ = false
theorem Boxes.below {w W W' : World} {vs : Value} {x : Sp} (h : Boxes w W vs x) (hb : Below W.heap.size W W') : Boxes w W' vs x := by
  obtain ⟨c0, c1, c2, c3, c4⟩ := h
  refine ⟨?_, ?_, ?_, ?_, ?_⟩
  · rw [hb.cell (World.block_lt_of_cell? W _ c0)]; exact c0
  · rw [hb.cell (World.block_lt_of_cell? W _ c1)]; exact c1
  · rw [hb.cell (World.block_lt_of_cell? W _ c2)]; exact c2
  · rw [hb.cell (World.block_lt_of_cell? W _ c3)]; exact c3
  · rw [hb.frozen (p := ⟨w.heap.size + 1 + 1, 0, none⟩) (World.block_lt_of_cell? W _ c3)]; exact c4
/-- Behind Of: the set of the span, and what lay before. -/
def Rest1 (w w2 : World) (x : Sp) (v2 : Value) : Prop := ∃ ts, SV w2 v2 ts ∧ OfR 255 [x] ts ∧ Below w.heap.size w w2 ∧ w.heap.size + 1 + 1 + 1 ≤ w2.heap.size
/-- Behind the call that makes the result. -/
def Rest2 (w w3 : World) (x : Sp) (keep : Bool → Bool → Bool) (s : List Sp) (v : Value) : Prop := ∃ rs, Own w3 (w.heap.size + 1 + 1 + 1) v rs ∧ (∃ ts, OfR 255 [x] ts ∧ Made 255 keep s ts rs) ∧ Below w.heap.size w w3
theorem one_sv {W : World} {g : Nat} {x : Sp} (h0 : W.cell? ⟨g, 0, none⟩ = some (.int .u8 x.1)) (h1 : W.cell? ⟨g, 1, none⟩ = some (.int .u8 x.2)) : SV W (.slice (some ⟨g, 0, none⟩) 1 1) [x] := by
  refine ⟨_, 1, rfl, Nat.le_refl _, by simp [maxLen], fun e => (by cases e), fun a e => (by cases e; exact ⟨g, 0, rfl, World.block_lt_of_cell? W _ h0⟩), fun j hj => ?_⟩
  obtain rfl : j = 0 := by simpa using hj
  exact ⟨g, 0, rfl, h0, h1⟩
theorem with1 {w W3 : World} {vs : Value} {x : Sp} (hx : Fits 255 [x]) (hz : W3.heap.size = w.heap.size + 1 + 1 + 1) (hb : Below w.heap.size w W3) (h : Boxes w W3 vs x) :
    Calls Tryz.prog 137 #[.slice (some ⟨w.heap.size + 1 + 1 + 1, 0, none⟩) 1 1] (W3.alloc (Obj.cells #[Value.int IntKind.u8 x.1, Value.int IntKind.u8 x.2] 126)).drew fun e w2 => ∃ a n c, e = .returned (.agg #[.slice a n c]) ∧ Boxes w w2 vs x ∧ Hid (Rest1 w w2 x (.slice a n c)) := by
  have hn := new2 hz (.int .u8 x.1) (.int .u8 x.2) 126
  have hbD : Below W3.heap.size W3 (W3.alloc (Obj.cells #[Value.int IntKind.u8 x.1, Value.int IntKind.u8 x.2] 126)).drew := ((Below.refl _ _).alloc (Nat.le_refl _) _).drew
  refine (of_any (one_sv (W := (W3.alloc (Obj.cells #[Value.int IntKind.u8 x.1, Value.int IntKind.u8 x.2] 126)).drew) hn.1 hn.2) hx (by simp)).mono ?_
  rintro e w2 ⟨v2, ts, rfl, ho, hr, hb2⟩
  obtain ⟨a, n, c, hv⟩ : ∃ a n c, v2 = .slice a n c := by
    obtain ⟨a, c, e, _⟩ := ho.sv
    exact ⟨a, _, c, e⟩
  subst hv
  refine ⟨a, n, c, rfl, (h.below hbD).below hb2, ts, ho.sv, hr, (hb.trans (hbD.mono (by omega))).trans (hb2.mono ?_), ?_⟩
  · have := hbD.size; omega
  · have := hbD.size; have := hb2.size; omega

theorem with2 {w w2 : World} {vs : Value} {s : List Sp} {x : Sp} {a : Option Addr} {n c : Nat} (hs : SV w vs s) (cs : Canon 255 s) (hl : s.length ≤ 137438953472) (h : Boxes w w2 vs x) (hr : Rest1 w w2 x (.slice a n c)) :
    Calls Tryz.prog 133 #[.agg #[vs], .agg #[.slice a n c]] w2 fun e w3 => ∃ a n c, e = .returned (.agg #[.slice a n c]) ∧ Boxes w w3 vs x ∧ Hid (Rest2 w w3 x (fun a b => a || b) s (.slice a n c)) := by
  obtain ⟨ts, h2, ht, hb, hz⟩ := hr
  refine (or_any (hs.below hb (Nat.le_refl _)) h2 cs ht.1 (by have := ht.2.2; simp at this; omega)).mono ?_
  rintro e w3 ⟨v3, rs, rfl, ho, hm, hb3⟩
  obtain ⟨a3, n3, c3, hv⟩ : ∃ a n c, v3 = .slice a n c := by
    obtain ⟨a, c, e, _⟩ := ho.sv
    exact ⟨a, _, c, e⟩
  subst hv
  exact ⟨a3, n3, c3, rfl, h.below hb3, rs, ho.lower hz, ⟨ts, ht, hm⟩, hb.trans (hb3.mono (by omega))⟩
set_option maxHeartbeats 2000000 in
theorem with_any {w : World} {vs : Value} {s : List Sp} {x : Sp} (hs : SV w vs s) (cs : Canon 255 s) (hl : s.length ≤ 137438953472) (hx : Fits 255 [x]) :
    Calls Tryz.prog 142 #[.agg #[vs], .agg #[.int .u8 x.1, .int .u8 x.2]] w (SetPost w fun rs => ∃ ts, OfR 255 [x] ts ∧ Made 255 (fun a b => a || b) s ts rs) := by
  have HS : Hid (SV w vs s) := hs
  have HX : Hid (Fits 255 [x]) := hx
  have HCs : Hid (Canon 255 s) := cs
  clear hs hx cs
  go_enter Tryz.func142, Tryz.ntmps142
  go_wp2_with fail
  obtain ⟨W3, hW3, hz, hb0, c0, c1, c2, c3, c4⟩ := three_boxes w vs x
  have H1 := with1 HX.out hz hb0 ⟨c0, c1, c2, c3, c4⟩
  have HC1 : Hid (Calls Tryz.prog 137 #[.slice (some ⟨w.heap.size + 1 + 1 + 1, 0, none⟩) 1 1] (W3.alloc (Obj.cells #[Value.int IntKind.u8 x.1, Value.int IntKind.u8 x.2] 126)).drew fun e w2 => ∃ a n c, e = .returned (.agg #[.slice a n c]) ∧ Boxes w w2 vs x ∧ Hid (Rest1 w w2 x (.slice a n c))) := H1
  rw [hW3]
  clear hW3 hb0 H1
  go_region_held (fun w' => w'.cell? ⟨w.heap.size, 0, none⟩ = some vs ∧ w'.cell? ⟨w.heap.size + 1, 0, none⟩ = some (.int .u8 x.1) ∧ w'.cell? ⟨w.heap.size + 1, 1, none⟩ = some (.int .u8 x.2)) (first | exact ⟨(set_other (by omega)).trans (by assumption), (set_other (by omega)).trans (by assumption), (set_other (by omega)).trans (by assumption)⟩ | go_keep)
    (first | (go_at_call 137; refine HC1.out.mono ?_; rintro e w2 ⟨a2, n2, k2, rfl, hbox, HR1⟩; have HX2 : Hid (Boxes w w2 vs x) := hbox; obtain ⟨d0, d1, d2, d3, d4⟩ := hbox) | (go_at_call 133; refine (with2 HS.out HCs.out hl HX2.out HR1.out).mono ?_; rintro e w3 ⟨a3, n3, k3, rfl, hbox3, HR2⟩; obtain ⟨b0, b1, b2, b3, b4⟩ := hbox3))
  go_wp2_with fail
  have e0 := World.cell?_setCell_same' w3 ⟨w.heap.size + 1 + 1, 0, none⟩ (.slice a3 n3 k3) (by rw [b3]; rfl)
  refine bodyPost_ret (v := .agg #[.slice a3 n3 k3]) (by simp [results, Tryz.results142, go_sem, e0]) rfl ?_
  obtain ⟨rs, ho, hm, hb⟩ := HR2.out
  exact ⟨_, rs, rfl, (ho.low (by omega) _ _).lower (by omega), hm, hb.setCell (p := ⟨w.heap.size + 1 + 1, 0, none⟩) (by show w.heap.size ≤ w.heap.size + 1 + 1; omega) _⟩

theorem without2 {w w2 : World} {vs : Value} {s : List Sp} {x : Sp} {a : Option Addr} {n c : Nat} (hs : SV w vs s) (cs : Canon 255 s) (hl : s.length ≤ 137438953472) (h : Boxes w w2 vs x) (hr : Rest1 w w2 x (.slice a n c)) :
    Calls Tryz.prog 136 #[.agg #[vs], .agg #[.slice a n c]] w2 fun e w3 => ∃ a n c, e = .returned (.agg #[.slice a n c]) ∧ Boxes w w3 vs x ∧ Hid (Rest2 w w3 x (fun a b => a && !b) s (.slice a n c)) := by
  obtain ⟨ts, h2, ht, hb, hz⟩ := hr
  refine (less_any (hs.below hb (Nat.le_refl _)) h2 cs ht.1 (by have := ht.2.2; simp at this; omega)).mono ?_
  rintro e w3 ⟨v3, rs, rfl, ho, hm, hb3⟩
  obtain ⟨a3, n3, c3, hv⟩ : ∃ a n c, v3 = .slice a n c := by
    obtain ⟨a, c, e, _⟩ := ho.sv
    exact ⟨a, _, c, e⟩
  subst hv
  exact ⟨a3, n3, c3, rfl, h.below hb3, rs, ho.lower hz, ⟨ts, ht, hm⟩, hb.trans (hb3.mono (by omega))⟩
set_option maxHeartbeats 2000000 in
theorem without_any {w : World} {vs : Value} {s : List Sp} {x : Sp} (hs : SV w vs s) (cs : Canon 255 s) (hl : s.length ≤ 137438953472) (hx : Fits 255 [x]) :
    Calls Tryz.prog 143 #[.agg #[vs], .agg #[.int .u8 x.1, .int .u8 x.2]] w (SetPost w fun rs => ∃ ts, OfR 255 [x] ts ∧ Made 255 (fun a b => a && !b) s ts rs) := by
  have HS : Hid (SV w vs s) := hs
  have HX : Hid (Fits 255 [x]) := hx
  have HCs : Hid (Canon 255 s) := cs
  clear hs hx cs
  go_enter Tryz.func143, Tryz.ntmps143
  go_wp2_with fail
  obtain ⟨W3, hW3, hz, hb0, c0, c1, c2, c3, c4⟩ := three_boxes w vs x
  have H1 := with1 HX.out hz hb0 ⟨c0, c1, c2, c3, c4⟩
  have HC1 : Hid (Calls Tryz.prog 137 #[.slice (some ⟨w.heap.size + 1 + 1 + 1, 0, none⟩) 1 1] (W3.alloc (Obj.cells #[Value.int IntKind.u8 x.1, Value.int IntKind.u8 x.2] 126)).drew fun e w2 => ∃ a n c, e = .returned (.agg #[.slice a n c]) ∧ Boxes w w2 vs x ∧ Hid (Rest1 w w2 x (.slice a n c))) := H1
  rw [hW3]
  clear hW3 hb0 H1
  go_region_held (fun w' => w'.cell? ⟨w.heap.size, 0, none⟩ = some vs ∧ w'.cell? ⟨w.heap.size + 1, 0, none⟩ = some (.int .u8 x.1) ∧ w'.cell? ⟨w.heap.size + 1, 1, none⟩ = some (.int .u8 x.2)) (first | exact ⟨(set_other (by omega)).trans (by assumption), (set_other (by omega)).trans (by assumption), (set_other (by omega)).trans (by assumption)⟩ | go_keep)
    (first | (go_at_call 137; refine HC1.out.mono ?_; rintro e w2 ⟨a2, n2, k2, rfl, hbox, HR1⟩; have HX2 : Hid (Boxes w w2 vs x) := hbox; obtain ⟨d0, d1, d2, d3, d4⟩ := hbox) | (go_at_call 136; refine (without2 HS.out HCs.out hl HX2.out HR1.out).mono ?_; rintro e w3 ⟨a3, n3, k3, rfl, hbox3, HR2⟩; obtain ⟨b0, b1, b2, b3, b4⟩ := hbox3))
  go_wp2_with fail
  have e0 := World.cell?_setCell_same' w3 ⟨w.heap.size + 1 + 1, 0, none⟩ (.slice a3 n3 k3) (by rw [b3]; rfl)
  refine bodyPost_ret (v := .agg #[.slice a3 n3 k3]) (by simp [results, Tryz.results143, go_sem, e0]) rfl ?_
  obtain ⟨rs, ho, hm, hb⟩ := HR2.out
  exact ⟨_, rs, rfl, (ho.low (by omega) _ _).lower (by omega), hm, hb.setCell (p := ⟨w.heap.size + 1 + 1, 0, none⟩) (by show w.heap.size ≤ w.heap.size + 1 + 1; omega) _⟩
end Go.Proofs.YtlndphdgodmgpaaGreat.Ty
/- pair, many. Own work. -/
namespace Go.Proofs.YtlndphdgodmgpaaGreat.Ty
open Go.RowKit Go.Shelf Go.Proofs.YtlndphdgodmgpaaGreat.Sp

theorem pair_any {a b : Int} (_ha : 0 ≤ a ∧ a ≤ 18446744073709551615) (_hb : 0 ≤ b ∧ b ≤ 18446744073709551615) (w : World) :
    Calls Tryz.prog 83 #[.int .u64 a, .int .u64 b] w fun e w' => e = .returned (.agg #[.int .u8 (a % (255 + 1)), .int .u8 (b % (255 + 1))]) ∧ ∃ X, w' = w.alloc X := by
  have d := new2 (W := w) rfl (.int .u8 (a % (255 + 1))) (.int .u8 (b % (255 + 1))) 126
  have e1 : IntKind.u8.wrap a = a % (255 + 1) := rfl
  have e2 : IntKind.u8.wrap b = b % (255 + 1) := rfl
  have i1 : 0 ≤ a % (255 + 1) ∧ a % (255 + 1) ≤ 255 := by omega
  have i2 : 0 ≤ b % (255 + 1) ∧ b % (255 + 1) ≤ 255 := by omega
  go_enter Tryz.func83, Tryz.ntmps83
  go_wp2_with fail
  refine bodyPost_ret (v := .agg #[.int .u8 (a % (255 + 1)), .int .u8 (b % (255 + 1))]) ?_ rfl ?_
  · simp [results, Tryz.results83, go_sem]
    try omega
  · exact ⟨rfl, _, rfl⟩

/-- An append of one span as a step of a region that draws. -/
theorem step_append1 {w : World} {ops : Array Oper} {o : Oper} {a : Act} {K : Act → World → Prop} {Q : Exit → Act → World → Prop} {E : Prop} (hw : Region.wanted o (yielded ops a.tmps) = true) (s x : Operand)
    (ho : o.op = .call { callee := .builtin .append, args := #[s, x], argTypes := #[120, 120] })
    {base : Nat} {v : Value} {xs : List Sp} (y : Sp) {g cap : Nat} (hs : a.eval s = v) (hown : Own w base v xs) (hx : a.eval x = .slice (some ⟨g, 0, none⟩) 1 cap) (h0 : w.cell? ⟨g, 0, none⟩ = some (.int .u8 y.1)) (h1 : w.cell? ⟨g, 1, none⟩ = some (.int .u8 y.2)) (hb : xs.length ≤ 1099511627776) (hbase : base ≤ w.heap.size)
    (h : ∀ v' w', Own w' base v' (xs ++ [y]) → w.grownBy w' v.ownBlock → K (a.put o.dst v') w') : if Region.wanted o (yielded ops a.tmps) = true then Oper.wp Tryz.prog o a w K Q else E := by
  rw [if_pos hw]
  obtain ⟨v', w', hr, h2, h3⟩ := run_append1 o.type hown h0 h1 hb hbase (cap := cap)
  unfold Oper.wp execOp
  simp only [ho, resolve, invoke, builtin, Sem.run_bind, Sem.run_pure, Result.andThen_ok, List.map_toArray, List.map_cons, List.map_nil, hs, hx, hr]
  exact h v' w' h2 h3
set_option maxRecDepth 100000 in
set_option maxHeartbeats 4000000 in
theorem many_any {w : World} {v : Value} {zs : List Int} (hv : UL w v zs) (hl : zs.length ≤ 4294967296) :
    Calls Tryz.prog 132 #[v] w (SetPost w (OfR 255 (pairs 255 zs))) := by
  have HV : Hid (∀ X, UL (w.alloc X) v zs) := fun X => hv.below ((Below.refl _ _).alloc (Nat.le_refl _) _) (Nat.le_refl _)
  obtain ⟨hr, ao, cap, rfl, h1, h2, h3, h5⟩ := hv
  have HR : Hid (∀ z ∈ zs, 0 ≤ z ∧ z ≤ 18446744073709551615) := hr
  unfold maxLen at h2
  clear h3 h5 hr
  go_enter Tryz.func132, Tryz.ntmps132
  go_wp2_with fail
  obtain ⟨W0, hW0⟩ : ∃ W0, w.alloc (Obj.cells #[.slice none 0 0] 122) = W0 := ⟨_, rfl⟩
  have HV0 : Hid (UL W0 (.slice ao zs.length cap) zs) := hW0 ▸ HV.out _
  have HB0 : Hid (Below w.heap.size w W0) := hW0 ▸ (Below.refl _ _).alloc (Nat.le_refl _) _
  have HR0 : Hid (W0.heap[w.heap.size]? = some (Obj.cells #[.slice none 0 0] 122)) := hW0 ▸ heap_alloc_new w _
  have HZ : Hid (W0.heap.size = w.heap.size + 1) := show W0.heap.size = w.heap.size + 1 by rw [← hW0]; simp
  rw [hW0]
  clear hW0 HV
  go_loopw [3, 4] (fun x i wr => ∃ k j : Nat, j = 2 * k ∧ j ≤ zs.length ∧ i = .int .i64 (j : Int) ∧ Hid (Own wr W0.heap.size x (pairsN 255 zs k)) ∧ Hid (Below W0.heap.size W0 wr)) (fun _ i _ => zs.length - (intOf i).toNat)
  case atStart => exact ⟨0, 0, rfl, Nat.zero_le _, rfl, Own.nil _ _, Below.refl _ _⟩
  case round =>
    obtain ⟨k, j, hj, hk, rfl, HO, HB⟩ := hrel
    by_cases hlt : j + 1 < zs.length
    · obtain ⟨_, ao', cap', e, _, _, _, h5⟩ := HV0.out.below HB.out (Nat.le_refl _)
      cases e
      obtain ⟨g, off, rfl, d0⟩ := h5 j (by omega)
      obtain ⟨g', off', e', d1⟩ := h5 (j + 1) hlt
      cases e'
      clear h5
      have r0 := HR.out zs[j] (List.getElem_mem _)
      have r1 := HR.out zs[j + 1] (List.getElem_mem _)
      have hp := pairsN_succ 255 zs k
      rw [← hj, List.getElem?_eq_getElem (show j < zs.length by omega), List.getElem?_eq_getElem hlt] at hp
      simp only [Option.getD_some] at hp
      obtain ⟨a, ha⟩ : ∃ a, a = zs[j] := ⟨_, rfl⟩
      obtain ⟨b, hb⟩ : ∃ b, b = zs[j + 1] := ⟨_, rfl⟩
      rw [← ha] at d0 r0 hp
      rw [← hb] at d1 r1 hp
      have HP : Hid (pairsN 255 zs (k + 1) = pairsN 255 zs k ++ [(a % (255 + 1), b % (255 + 1))]) := hp
      have HJ : Hid (j = 2 * k) := hj
      clear hp ha hb hj
      have i0 : (0 : Int) ≤ (j : Int) := by omega
      have i1 : (j : Int) < (zs.length : Int) := by omega
      obtain ⟨j1, hj1⟩ : ∃ j1, j1 = j + 1 := ⟨_, rfl⟩
      have q : IntKind.i64.wrap ((j : Int) + 1) = (j1 : Int) := by rw [wrap_i64 (by omega) (by omega)]; omega
      have i2 : (0 : Int) ≤ (j1 : Int) := by omega
      have i3 : (j1 : Int) < (zs.length : Int) := by omega
      rw [← hj1] at d1
      have HJ1 : Hid (j1 = j + 1) := hj1
      clear hj1
      have hlen : (pairsN 255 zs k).length ≤ 1099511627776 := by rw [pairsN_length]; have := HJ.out; omega
      obtain ⟨a3, n3, c3, hu3⟩ : ∃ a n c, u3 = .slice a n c := by
        obtain ⟨a, c, e, _⟩ := HO.out.sv
        exact ⟨a, _, c, e⟩
      subst hu3
      have HOx : Hid (∀ X Y, Own ((wr.alloc X).alloc Y).drew W0.heap.size (.slice a3 n3 c3) (pairsN 255 zs k)) := fun X Y => (HO.out.alloc X).alloc Y
      have HBx : Hid (∀ X Y, Below W0.heap.size W0 ((wr.alloc X).alloc Y).drew) := fun X Y => ((HB.out.alloc HB.out.size X).alloc (by have := HB.out.size; simp; omega) Y).drew
      go_wp2_with fail
      have HCell : Hid (∀ W, Below W0.heap.size W0 W → W.cell? ⟨g, off + j, none⟩ = some (.int .u64 a) ∧ W.cell? ⟨g, off + j1, none⟩ = some (.int .u64 b)) := fun W hW => by
        obtain ⟨_, ao', cap', e, _, _, _, h5⟩ := HV0.out
        cases e
        obtain ⟨g2, off2, e2, k0⟩ := h5 j (by omega)
        cases e2
        have hg := World.block_lt_of_cell? W0 _ k0
        exact ⟨by rw [hW.cell (p := ⟨g, off + j, none⟩) hg, ← HB.out.cell (p := ⟨g, off + j, none⟩) hg]; exact d0, by rw [hW.cell (p := ⟨g, off + j1, none⟩) hg, ← HB.out.cell (p := ⟨g, off + j1, none⟩) hg]; exact d1⟩
      go_region_held3 (fun w' => w'.cell? ⟨g, off + j, none⟩ = some (.int .u64 a) ∧ w'.cell? ⟨g, off + j1, none⟩ = some (.int .u64 b)) (go_keep) (first | (go_at_call 83; refine (pair_any r0 r1 _).mono ?_; rintro e w' ⟨rfl, X, rfl⟩) | (refine step_append1 (by kernel_rfl) (.tmp 12) (.tmp 23) (by rfl) (a % (255 + 1), b % (255 + 1)) (by rfl) (HOx.out _ _) (by rfl) (new2 (W := wr.alloc X) (n := wr.heap.size + 1) (by simp) _ _ _).1 (new2 (W := wr.alloc X) (n := wr.heap.size + 1) (by simp) _ _ _).2 hlen (HBx.out _ _).size ?_; intro v2 w2 h2 g2; have HB2 : Hid (Below W0.heap.size W0 w2) := (HBx.out _ _).grown g2 (HBx.out _ _).size (fun k hk => HO.out.ge hk); have HO2 : Hid (Own w2 W0.heap.size v2 (pairsN 255 zs (k + 1))) := HP.out ▸ h2; obtain ⟨k0, k1⟩ := HCell.out _ HB2.out; clear h2 g2))
      go_wp2_with fail
      go_roundw
      case rel => exact ⟨k + 1, j + 2, by have := HJ.out; omega, by omega, by go_num, HO2.out, HB2.out⟩
      case measure => simp [intOf]; omega
    · have hkk : k = zs.length / 2 := by omega
      have HO' : Hid (Own wr W0.heap.size u3 (pairs 255 zs)) := show Own wr W0.heap.size u3 (pairs 255 zs) by unfold pairs; rw [← hkk]; exact HO.out
      have hlen : (pairs 255 zs).length ≤ 1099511627776 := by unfold pairs; rw [pairsN_length]; omega
      have hbk : wr.heap[w.heap.size]? = some (.cells #[.slice none 0 0] 122) := by
        rw [HB.out.block _ (by have := HZ.out; omega)]
        exact HR0.out
      have HCe : Hid (∀ W, Below wr.heap.size wr W → W.cell? ⟨w.heap.size, 0, none⟩ = some (.slice none 0 0) ∧ W.frozen? ⟨w.heap.size, 0, none⟩ = false) := fun W hW => by
        have hb := (hW.block w.heap.size (by have := HZ.out; have := HB.out.size; omega)).trans hbk
        exact ⟨by rw [cell_of_row _ _ 0 _ _ _ hb]; rfl, by simp [World.frozen?, hb]⟩
      clear hbk HO
      go_wp2_with fail
      refine (of_any HO'.out.sv (pairs_fits (by decide) zs) hlen).mono ?_
      rintro e w2 ⟨v2, rs, rfl, ho2, hr2, hb2⟩
      obtain ⟨a2, n2, c2, hv2⟩ : ∃ a n c, v2 = .slice a n c := by
        obtain ⟨a, c, e, _⟩ := ho2.sv
        exact ⟨a, _, c, e⟩
      subst hv2
      obtain ⟨hce, hfe⟩ := HCe.out _ hb2
      have HO2 : Hid (Own w2 wr.heap.size (.slice a2 n2 c2) rs) := ho2
      have HR2 : Hid (OfR 255 (pairs 255 zs) rs) := hr2
      have HB2 : Hid (Below w.heap.size w w2) := (HB0.out.trans (HB.out.mono HB0.out.size)).trans (hb2.mono (Nat.le_trans HB0.out.size HB.out.size))
      clear ho2 hr2 hb2
      go_wp2_with fail
      have d0 := World.cell?_setCell_same' w2 ⟨w.heap.size, 0, none⟩ (.slice a2 n2 c2) (by rw [hce]; rfl)
      refine bodyPost_ret (v := .agg #[.slice a2 n2 c2]) (by simp [results, Tryz.results132, go_sem, d0]) rfl ?_
      exact ⟨_, rs, rfl, (HO2.out.low (by have := HZ.out; have := HB.out.size; omega) _ _).lower (by have := HZ.out; have := HB.out.size; omega), HR2.out, HB2.out.setCell (p := ⟨w.heap.size, 0, none⟩) (Nat.le_refl _) _⟩
end Go.Proofs.YtlndphdgodmgpaaGreat.Ty
