import Derived.Test.YtfnikcjcgneboaaGreatPk07
import Derived.Shelf.SlSorted.Search
import Derived.Test.YtfnikcjcgneboaaGreatProg
/- Spans; With, Without. Own work (made by a program). -/
namespace Go.Proofs.YtfnikcjcgneboaaGreat.U64
open Go.RowKit Go.Shelf Go.Proofs.YtfnikcjcgneboaaGreat.Sp

/-- Three boxes: a set, a span, the result's. -/
theorem three_boxes (w : World) (vs : Value) (x : Sp) :
    ∃ W3, ((w.alloc (Obj.cells #[vs] 95)).alloc (Obj.cells #[Value.int IntKind.u64 x.1, Value.int IntKind.u64 x.2] 157)).alloc (Obj.cells #[Value.slice none 0 0] 95) = W3 ∧ W3.heap.size = w.heap.size + 1 + 1 + 1 ∧ Below w.heap.size w W3 ∧
      W3.cell? ⟨w.heap.size, 0, none⟩ = some vs ∧ W3.cell? ⟨w.heap.size + 1, 0, none⟩ = some (.int .u64 x.1) ∧ W3.cell? ⟨w.heap.size + 1, 1, none⟩ = some (.int .u64 x.2) ∧ W3.cell? ⟨w.heap.size + 1 + 1, 0, none⟩ = some (.slice none 0 0) ∧ W3.frozen? ⟨w.heap.size + 1 + 1, 0, none⟩ = false := by
  have e0 : ((w.alloc (Obj.cells #[vs] 95)).cell? ⟨w.heap.size, 0, none⟩) = some vs := by
    rw [cell_of_row _ _ 0 _ _ _ (heap_alloc_new w _)]; rfl
  have e1 := new2 (W := w.alloc (Obj.cells #[vs] 95)) (n := w.heap.size + 1) (by simp) (.int .u64 x.1) (.int .u64 x.2) 157
  have e2 := third_cell (w := w) (a := Obj.cells #[vs] 95) (b := Obj.cells #[Value.int IntKind.u64 x.1, Value.int IntKind.u64 x.2] 157) (v := .slice none 0 0) (t := 95) (Below.refl _ _)
  exact ⟨_, rfl, by simp, (((Below.refl _ _).alloc (Nat.le_refl _) _).alloc (by simp) _).alloc (by simp; omega) _, cell_alloc' _ (cell_alloc' _ e0), cell_alloc' _ e1.1, cell_alloc' _ e1.2, e2.1, e2.2⟩
/-- They lie as they were laid. -/
def Boxes (w W : World) (vs : Value) (x : Sp) : Prop :=
  W.cell? ⟨w.heap.size, 0, none⟩ = some vs ∧ W.cell? ⟨w.heap.size + 1, 0, none⟩ = some (.int .u64 x.1) ∧ W.cell? ⟨w.heap.size + 1, 1, none⟩ = some (.int .u64 x.2) ∧ W.cell? ⟨w.heap.size + 1 + 1, 0, none⟩ = some (.slice none 0 0) ∧ W.frozen? ⟨w.heap.size + 1 + 1, 0, none⟩ = false
theorem Boxes.below {w W W' : World} {vs : Value} {x : Sp} (h : Boxes w W vs x) (hb : Below W.heap.size W W') : Boxes w W' vs x := by
  obtain ⟨c0, c1, c2, c3, c4⟩ := h
  refine ⟨?_, ?_, ?_, ?_, ?_⟩
  · rw [hb.cell (World.block_lt_of_cell? W _ c0)]; exact c0
  · rw [hb.cell (World.block_lt_of_cell? W _ c1)]; exact c1
  · rw [hb.cell (World.block_lt_of_cell? W _ c2)]; exact c2
  · rw [hb.cell (World.block_lt_of_cell? W _ c3)]; exact c3
  · rw [hb.frozen (p := ⟨w.heap.size + 1 + 1, 0, none⟩) (World.block_lt_of_cell? W _ c3)]; exact c4
/-- Behind Of: the set of the span, and what lay before. -/
def Rest1 (w w2 : World) (x : Sp) (v2 : Value) : Prop := ∃ ts, SV w2 v2 ts ∧ OfR 18446744073709551615 [x] ts ∧ Below w.heap.size w w2 ∧ w.heap.size + 1 + 1 + 1 ≤ w2.heap.size
/-- Behind the call that makes the result. -/
def Rest2 (w w3 : World) (x : Sp) (keep : Bool → Bool → Bool) (s : List Sp) (v : Value) : Prop := ∃ rs, Own w3 (w.heap.size + 1 + 1 + 1) v rs ∧ (∃ ts, OfR 18446744073709551615 [x] ts ∧ Made 18446744073709551615 keep s ts rs) ∧ Below w.heap.size w w3
theorem one_sv {W : World} {g : Nat} {x : Sp} (h0 : W.cell? ⟨g, 0, none⟩ = some (.int .u64 x.1)) (h1 : W.cell? ⟨g, 1, none⟩ = some (.int .u64 x.2)) : SV W (.slice (some ⟨g, 0, none⟩) 1 1) [x] := by
  refine ⟨_, 1, rfl, Nat.le_refl _, by simp [maxLen], fun e => (by cases e), fun a e => (by cases e; exact ⟨g, 0, rfl, World.block_lt_of_cell? W _ h0⟩), fun j hj => ?_⟩
  obtain rfl : j = 0 := by simpa using hj
  exact ⟨g, 0, rfl, h0, h1⟩
theorem with1 {w W3 : World} {vs : Value} {x : Sp} (hx : Fits 18446744073709551615 [x]) (hz : W3.heap.size = w.heap.size + 1 + 1 + 1) (hb : Below w.heap.size w W3) (h : Boxes w W3 vs x) :
    Calls Tryz.prog 48 #[.slice (some ⟨w.heap.size + 1 + 1 + 1, 0, none⟩) 1 1] (W3.alloc (Obj.cells #[Value.int IntKind.u64 x.1, Value.int IntKind.u64 x.2] 157)).drew fun e w2 => ∃ a n c, e = .returned (.agg #[.slice a n c]) ∧ Boxes w w2 vs x ∧ Hid (Rest1 w w2 x (.slice a n c)) := by
  have hn := new2 hz (.int .u64 x.1) (.int .u64 x.2) 157
  have hbD : Below W3.heap.size W3 (W3.alloc (Obj.cells #[Value.int IntKind.u64 x.1, Value.int IntKind.u64 x.2] 157)).drew := ((Below.refl _ _).alloc (Nat.le_refl _) _).drew
  refine (of_any (one_sv (W := (W3.alloc (Obj.cells #[Value.int IntKind.u64 x.1, Value.int IntKind.u64 x.2] 157)).drew) hn.1 hn.2) hx (by simp)).mono ?_
  rintro e w2 ⟨v2, ts, rfl, ho, hr, hb2⟩
  obtain ⟨a, n, c, hv⟩ : ∃ a n c, v2 = .slice a n c := by
    obtain ⟨a, c, e, _⟩ := ho.sv
    exact ⟨a, _, c, e⟩
  subst hv
  refine ⟨a, n, c, rfl, (h.below hbD).below hb2, ts, ho.sv, hr, (hb.trans (hbD.mono (by omega))).trans (hb2.mono ?_), ?_⟩
  · have := hbD.size; omega
  · have := hbD.size; have := hb2.size; omega

theorem with2 {w w2 : World} {vs : Value} {s : List Sp} {x : Sp} {a : Option Addr} {n c : Nat} (hs : SV w vs s) (cs : Canon 18446744073709551615 s) (hl : s.length ≤ 137438953472) (h : Boxes w w2 vs x) (hr : Rest1 w w2 x (.slice a n c)) :
    Calls Tryz.prog 90 #[.agg #[vs], .agg #[.slice a n c]] w2 fun e w3 => ∃ a n c, e = .returned (.agg #[.slice a n c]) ∧ Boxes w w3 vs x ∧ Hid (Rest2 w w3 x (fun a b => a || b) s (.slice a n c)) := by
  obtain ⟨ts, h2, ht, hb, hz⟩ := hr
  refine (or_any (hs.below hb (Nat.le_refl _)) h2 cs ht.1 (by have := ht.2.2; simp at this; omega)).mono ?_
  rintro e w3 ⟨v3, rs, rfl, ho, hm, hb3⟩
  obtain ⟨a3, n3, c3, hv⟩ : ∃ a n c, v3 = .slice a n c := by
    obtain ⟨a, c, e, _⟩ := ho.sv
    exact ⟨a, _, c, e⟩
  subst hv
  exact ⟨a3, n3, c3, rfl, h.below hb3, rs, ho.lower hz, ⟨ts, ht, hm⟩, hb.trans (hb3.mono (by omega))⟩
set_option maxHeartbeats 2000000 in
theorem with_any {w : World} {vs : Value} {s : List Sp} {x : Sp} (hs : SV w vs s) (cs : Canon 18446744073709551615 s) (hl : s.length ≤ 137438953472) (hx : Fits 18446744073709551615 [x]) :
    Calls Tryz.prog 72 #[.agg #[vs], .agg #[.int .u64 x.1, .int .u64 x.2]] w (SetPost w fun rs => ∃ ts, OfR 18446744073709551615 [x] ts ∧ Made 18446744073709551615 (fun a b => a || b) s ts rs) := by
  have HS : Hid (SV w vs s) := hs
  have HX : Hid (Fits 18446744073709551615 [x]) := hx
  have HCs : Hid (Canon 18446744073709551615 s) := cs
  clear hs hx cs
  go_enter Tryz.func72, Tryz.ntmps72
  go_wp2_with fail
  obtain ⟨W3, hW3, hz, hb0, c0, c1, c2, c3, c4⟩ := three_boxes w vs x
  have H1 := with1 HX.out hz hb0 ⟨c0, c1, c2, c3, c4⟩
  have HC1 : Hid (Calls Tryz.prog 48 #[.slice (some ⟨w.heap.size + 1 + 1 + 1, 0, none⟩) 1 1] (W3.alloc (Obj.cells #[Value.int IntKind.u64 x.1, Value.int IntKind.u64 x.2] 157)).drew fun e w2 => ∃ a n c, e = .returned (.agg #[.slice a n c]) ∧ Boxes w w2 vs x ∧ Hid (Rest1 w w2 x (.slice a n c))) := H1
  rw [hW3]
  clear hW3 hb0 H1
  go_region_held (fun w' => w'.cell? ⟨w.heap.size, 0, none⟩ = some vs ∧ w'.cell? ⟨w.heap.size + 1, 0, none⟩ = some (.int .u64 x.1) ∧ w'.cell? ⟨w.heap.size + 1, 1, none⟩ = some (.int .u64 x.2)) (first | exact ⟨(set_other (by omega)).trans (by assumption), (set_other (by omega)).trans (by assumption), (set_other (by omega)).trans (by assumption)⟩ | go_keep)
    (first | (go_at_call 48; refine HC1.out.mono ?_; rintro e w2 ⟨a2, n2, k2, rfl, hbox, HR1⟩; have HX2 : Hid (Boxes w w2 vs x) := hbox; obtain ⟨d0, d1, d2, d3, d4⟩ := hbox) | (go_at_call 90; refine (with2 HS.out HCs.out hl HX2.out HR1.out).mono ?_; rintro e w3 ⟨a3, n3, k3, rfl, hbox3, HR2⟩; obtain ⟨b0, b1, b2, b3, b4⟩ := hbox3))
  go_wp2_with fail
  have e0 := World.cell?_setCell_same' w3 ⟨w.heap.size + 1 + 1, 0, none⟩ (.slice a3 n3 k3) (by rw [b3]; rfl)
  refine bodyPost_ret (v := .agg #[.slice a3 n3 k3]) (by simp [results, Tryz.results72, go_sem, e0]) rfl ?_
  obtain ⟨rs, ho, hm, hb⟩ := HR2.out
  exact ⟨_, rs, rfl, (ho.low (by omega) _ _).lower (by omega), hm, hb.setCell (p := ⟨w.heap.size + 1 + 1, 0, none⟩) (by show w.heap.size ≤ w.heap.size + 1 + 1; omega) _⟩

end Go.Proofs.YtfnikcjcgneboaaGreat.U64
/- Contracts of the library, laid at this program: in plain words, by a program. -/
namespace Go.Proofs.YtfnikcjcgneboaaGreat
open Go.Shelf
def search_ren : Go.Shelf.Ren := ⟨fun | 16 => 123 | n => n, fun | 3 => 3 | 35 => 100 | 4 => 4 | 38 => 102 | n => n, fun | n => n⟩
theorem search : Go.Proofs.SlLaysO.n16 Tryz.prog search_ren := {
  mixed := by kernel_rfl
  f16 := Tryz.func123.trans (congrArg some (by kernel_rfl))
  t3 := Tryz.underlying3
  a3 := Tryz.isAgg3
  z3 := Tryz.sizeOf3
  v3 := Tryz.zeroValue3
  t4 := Tryz.underlying4
  a4 := Tryz.isAgg4
  z4 := Tryz.sizeOf4
  v4 := Tryz.zeroValue4
  t35 := Tryz.underlying100
  a35 := Tryz.isAgg100
  z35 := Tryz.sizeOf100
  v35 := Tryz.zeroValue100
  t38 := Tryz.underlying102
  a38 := Tryz.isAgg102
  z38 := Tryz.sizeOf102
  v38 := Tryz.zeroValue102 }
end Go.Proofs.YtfnikcjcgneboaaGreat
/- from: the spans that don't end below a point. Own work. -/
namespace Go.Proofs.YtfnikcjcgneboaaGreat.U64
open Go.RowKit Go.Shelf Go.Proofs.YtfnikcjcgneboaaGreat.Sp

set_option maxHeartbeats 1000000 in
theorem from1_any {W : World} {v : Value} {xs : List Sp} {p : Int} {bs bp i : Nat} (hs : W.cell? ⟨bs, 0, none⟩ = some v) (hp : W.cell? ⟨bp, 0, none⟩ = some (.int .u64 p)) (hv : SV W v xs) (hi : i < xs.length) :
    Calls Tryz.prog 124 #[.int .i64 (i : Int), .pointer (some ⟨bs, 0, none⟩), .pointer (some ⟨bp, 0, none⟩)] W fun e w' => e = .returned (.bool (decide (p ≤ xs[i].2))) ∧ ∃ q, w' = W.drewN q := by
  obtain ⟨ao, cap, rfl, h1, h2, h3, h4, h5⟩ := hv
  obtain ⟨g, off, rfl, c0, c1⟩ := h5 i hi
  unfold maxLen at h2
  clear h5 h4 h3 c0
  obtain ⟨z, hz⟩ : ∃ z, z = xs[i].2 := ⟨_, rfl⟩
  rw [← hz] at c1 ⊢
  clear hz
  go_enter Tryz.func124, Tryz.ntmps124
  go_wp2_with fail
  go_quiet (fail)
  go_wp2_with fail
  go_ret
  exact ⟨rfl, _, rfl⟩
theorem SV.drop {w : World} {g off cap n : Nat} {xs : List Sp} (h : SV w (.slice (some ⟨g, off, none⟩) n cap) xs) {k : Nat} (hk : k ≤ xs.length) : SV w (.slice (some ⟨g, off + k * 2, none⟩) (n - k) (cap - k)) (xs.drop k) := by
  obtain ⟨ao, cap, e, h1, h2, h3, h4, h5⟩ := h
  cases e
  obtain ⟨g', off', e', hg⟩ := h4 _ rfl
  cases e'
  refine ⟨_, _, by rw [List.length_drop], by simp; omega, by omega, fun e => (by cases e), fun a e => (by cases e; exact ⟨g, _, rfl, hg⟩), fun j hj => ?_⟩
  obtain ⟨g', off', e', d0, d1⟩ := h5 (k + j) (by simp at hj; omega)
  cases e'
  refine ⟨g, off + k * 2, rfl, ?_, ?_⟩
  · rw [show off + k * 2 + j * 2 = off + (k + j) * 2 by omega, List.getElem_drop]; exact d0
  · rw [show off + k * 2 + j * 2 + 1 = off + (k + j) * 2 + 1 by omega, List.getElem_drop]; exact d1
theorem SV.dropAll {w : World} {g off n : Nat} {xs : List Sp} {k : Nat} (h : SV w (.slice (some ⟨g, off, none⟩) n k) xs) : SV w (.slice (some ⟨g, off, none⟩) 0 0) (xs.drop k) := by
  obtain ⟨ao, cap, e, h1, h2, h3, h4, h5⟩ := h
  cases e
  rw [List.drop_eq_nil_of_le (by omega)]
  exact ⟨_, _, rfl, Nat.le_refl _, Nat.zero_le _, fun e => (by cases e), h4, fun j hj => by simp at hj⟩
set_option maxHeartbeats 1000000 in
theorem from_any {w : World} {v : Value} {xs : List Sp} {p : Int} (hv : SV w v xs) (hc : Canon 18446744073709551615 xs) (hl : xs.length ≤ 1152921504606846976) :
    Calls Tryz.prog 114 #[.agg #[v], .int .u64 p] w fun e w' => ∃ v', e = .returned v' ∧ (∀ W, SV W v xs → SV W v' (restAt p xs)) ∧ Below w.heap.size w w' := by
  obtain ⟨ao, cap, e, hcap, hmax, hnil, hblk, hcells⟩ := hv
  have hv : SV w v xs := ⟨ao, cap, e, hcap, hmax, hnil, hblk, hcells⟩
  have HS : Hid (Calls Tryz.prog 123 #[.int .i64 (xs.length : Int), .func (.func 124) #[] #[.pointer (some ⟨w.heap.size, 0, none⟩), .pointer (some ⟨w.heap.size + 1, 0, none⟩)]] ((w.alloc (Obj.cells #[v] 95)).alloc (Obj.cells #[.int .u64 p] 34))
      fun e w' => e = .returned (.int .i64 ((ends p xs : Nat) : Int)) ∧ Below (w.heap.size + 1 + 1) ((w.alloc (Obj.cells #[v] 95)).alloc (Obj.cells #[.int .u64 p] 34)) w') := by
    obtain ⟨W2, hW2⟩ : ∃ W2, (w.alloc (Obj.cells #[v] 95)).alloc (Obj.cells #[.int .u64 p] 34) = W2 := ⟨_, rfl⟩
    have hz : W2.heap.size = w.heap.size + 1 + 1 := by rw [← hW2]; simp
    have k0 : W2.cell? ⟨w.heap.size, 0, none⟩ = some v := by
      rw [← hW2]
      exact cell_alloc' _ (by rw [cell_of_row _ _ 0 _ _ _ (heap_alloc_new w _)]; rfl)
    have k1 : W2.cell? ⟨w.heap.size + 1, 0, none⟩ = some (.int .u64 p) := by
      have := heap_alloc_new (w.alloc (Obj.cells #[v] 95)) (Obj.cells #[.int .u64 p] 34)
      rw [show (w.alloc (Obj.cells #[v] 95)).heap.size = w.heap.size + 1 by simp] at this
      rw [← hW2, cell_of_row _ _ 0 _ _ _ this]; rfl
    have hv2 : SV W2 v xs := by rw [← hW2]; exact (hv.alloc _).alloc _
    rw [hW2]
    have hbg : ∀ m os, Below W2.heap.size W2 (Go.Sort.grow (W2.drewN m) os) := fun m os => ⟨rfl, rfl, rfl, by simp, fun k hk => by rw [Go.Sort.heap_grow_old _ _ (by simpa using hk)]; rfl⟩
    have := Any.sort_Search search 124 #[.pointer (some ⟨w.heap.size, 0, none⟩), .pointer (some ⟨w.heap.size + 1, 0, none⟩)] xs.length (fun i => decide (p ≤ (xs[i]!).2)) W2 (enters_of Tryz.func124 (by kernel_rfl) rfl) (by omega) (fun m os i hi => by
      have hc := from1_any (W := Go.Sort.grow (W2.drewN m) os) (i := i) ((hbg m os).cell (p := ⟨w.heap.size, 0, none⟩) (by show w.heap.size < _; omega) ▸ k0) ((hbg m os).cell (p := ⟨w.heap.size + 1, 0, none⟩) (by show w.heap.size + 1 < _; omega) ▸ k1) (hv2.below (hbg m os) (Nat.le_refl _)) hi
      refine hc.mono ?_
      rintro e w' ⟨rfl, q, rfl⟩
      refine ⟨by rw [getElem!_pos xs i hi], q, #[], by simp⟩) (hmono hc)
    refine Calls.mono this ?_
    rintro e w' ⟨rfl, q, os, rfl⟩
    refine ⟨by rw [ends_range], ?_⟩
    rw [← hz]
    exact hbg q os
  have hle := ends_le p xs
  obtain ⟨k, hk⟩ : ∃ k, k = ends p xs := ⟨_, rfl⟩
  unfold restAt
  rw [← hk] at HS hle ⊢
  subst e
  clear hcells hc hv hk
  unfold maxLen at hmax
  have HB0 : Hid (∀ a b, Below w.heap.size w ((w.alloc a).alloc b)) := fun a b => ((Below.refl _ _).alloc (Nat.le_refl _) _).alloc (by simp) _
  cases ao with
  | none =>
    obtain ⟨rfl, rfl⟩ := hnil rfl
    obtain rfl : k = 0 := by simpa using hle
    clear hnil hblk
    go_enter Tryz.func114, Tryz.ntmps114
    go_wp2_with fail
    refine HS.out.mono ?_
    rintro e w2 ⟨rfl, hb2⟩
    have c0 : w2.cell? ⟨w.heap.size, 0, none⟩ = some (.slice none 0 0) := by
      rw [hb2.cell (p := ⟨w.heap.size, 0, none⟩) (by show w.heap.size < _; omega)]
      exact cell_alloc' _ (by rw [cell_of_row _ _ 0 _ _ _ (heap_alloc_new w _)]; rfl)
    have HB2 : Hid (Below w.heap.size w w2) := (HB0.out _ _).trans (hb2.mono (by omega))
    clear hb2
    go_wp2_with fail
    go_ret
    exact ⟨_, rfl, fun W h => h, HB2.out⟩
  | some a =>
    obtain ⟨g, off, rfl, hg⟩ := hblk _ rfl
    clear hnil hblk hg
    obtain ⟨n, hn⟩ : ∃ n, n = xs.length := ⟨_, rfl⟩
    have HN : Hid (k ≤ xs.length) := hle
    rw [← hn] at HS hl hcap hle ⊢
    clear hn
    by_cases hkc : k = cap
    · subst hkc
      go_enter Tryz.func114, Tryz.ntmps114
      go_wp2_with fail
      refine HS.out.mono ?_
      rintro e w2 ⟨rfl, hb2⟩
      have c0 : w2.cell? ⟨w.heap.size, 0, none⟩ = some (.slice (some ⟨g, off, none⟩) n k) := by
        rw [hb2.cell (p := ⟨w.heap.size, 0, none⟩) (by show w.heap.size < _; omega)]
        exact cell_alloc' _ (by rw [cell_of_row _ _ 0 _ _ _ (heap_alloc_new w _)]; rfl)
      have HB2 : Hid (Below w.heap.size w w2) := (HB0.out _ _).trans (hb2.mono (by omega))
      clear hb2
      go_wp2_with fail
      go_ret
      exact ⟨_, rfl, fun W h => h.dropAll, HB2.out⟩
    · go_enter Tryz.func114, Tryz.ntmps114
      go_wp2_with fail
      refine HS.out.mono ?_
      rintro e w2 ⟨rfl, hb2⟩
      have c0 : w2.cell? ⟨w.heap.size, 0, none⟩ = some (.slice (some ⟨g, off, none⟩) n cap) := by
        rw [hb2.cell (p := ⟨w.heap.size, 0, none⟩) (by show w.heap.size < _; omega)]
        exact cell_alloc' _ (by rw [cell_of_row _ _ 0 _ _ _ (heap_alloc_new w _)]; rfl)
      have HB2 : Hid (Below w.heap.size w w2) := (HB0.out _ _).trans (hb2.mono (by omega))
      clear hb2
      go_wp2_with fail
      go_ret
      exact ⟨_, rfl, fun W h => h.drop HN.out, HB2.out⟩
end Go.Proofs.YtfnikcjcgneboaaGreat.U64
