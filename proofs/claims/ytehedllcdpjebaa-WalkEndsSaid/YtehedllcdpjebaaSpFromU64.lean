/- from: the spans that don't end below a point. Own work. -/
import Derived.Test.YtehedllcdpjebaaSpWithU64
import Derived.Test.YtehedllcdpjebaaShelfSearch
namespace Go.Proofs.Ytehedllcdpjebaa.U64
open Go.RowKit Go.Shelf Go.Proofs.Ytehedllcdpjebaa.Sp

set_option maxHeartbeats 1000000 in
theorem from1_any {W : World} {v : Value} {xs : List Sp} {p : Int} {bs bp i : Nat} (hs : W.cell? ⟨bs, 0, none⟩ = some v) (hp : W.cell? ⟨bp, 0, none⟩ = some (.int .u64 p)) (hv : SV W v xs) (hi : i < xs.length) :
    Calls Try.prog 86 #[.int .i64 (i : Int), .pointer (some ⟨bs, 0, none⟩), .pointer (some ⟨bp, 0, none⟩)] W fun e w' => e = .returned (.bool (decide (p ≤ xs[i].2))) ∧ ∃ q, w' = W.drewN q := by
  obtain ⟨ao, cap, rfl, h1, h2, h3, h4, h5⟩ := hv
  obtain ⟨g, off, rfl, c0, c1⟩ := h5 i hi
  unfold maxLen at h2
  clear h5 h4 h3 c0
  obtain ⟨z, hz⟩ : ∃ z, z = xs[i].2 := ⟨_, rfl⟩
  rw [← hz] at c1 ⊢
  clear hz
  go_enter Try.func86, Try.ntmps86
  go_wp2_with fail
  go_quiet (fail)
  go_wp2_with fail
  go_ret
  exact ⟨rfl, _, rfl⟩
theorem SV.drop {w : World} {g off cap n : Nat} {xs : List Sp} (h : SV w (.slice (some ⟨g, off, none⟩) n cap) xs) {k : Nat} (hk : k ≤ xs.length) : SV w (.slice (some ⟨g, off + k * 2, none⟩) (n - k) (cap - k)) (xs.drop k) := by
  obtain ⟨ao, cap, e, h1, h2, h3, h4, h5⟩ := h
  cases e
  obtain ⟨g', off', e', hg⟩ := h4 _ rfl
  cases e'
  refine ⟨_, _, by rw [List.length_drop], by simp; omega, by omega, fun e => (by cases e), fun a e => (by cases e; exact ⟨g, _, rfl, hg⟩), fun j hj => ?_⟩
  obtain ⟨g', off', e', d0, d1⟩ := h5 (k + j) (by simp at hj; omega)
  cases e'
  refine ⟨g, off + k * 2, rfl, ?_, ?_⟩
  · rw [show off + k * 2 + j * 2 = off + (k + j) * 2 by omega, List.getElem_drop]; exact d0
  · rw [show off + k * 2 + j * 2 + 1 = off + (k + j) * 2 + 1 by omega, List.getElem_drop]; exact d1
theorem SV.dropAll {w : World} {g off n : Nat} {xs : List Sp} {k : Nat} (h : SV w (.slice (some ⟨g, off, none⟩) n k) xs) : SV w (.slice (some ⟨g, off, none⟩) 0 0) (xs.drop k) := by
  obtain ⟨ao, cap, e, h1, h2, h3, h4, h5⟩ := h
  cases e
  rw [List.drop_eq_nil_of_le (by omega)]
  exact ⟨_, _, rfl, Nat.le_refl _, Nat.zero_le _, fun e => (by cases e), h4, fun j hj => by simp at hj⟩
set_option maxHeartbeats 1000000 in
theorem from_any {w : World} {v : Value} {xs : List Sp} {p : Int} (hv : SV w v xs) (hc : Canon 18446744073709551615 xs) (hl : xs.length ≤ 1152921504606846976) :
    Calls Try.prog 76 #[.agg #[v], .int .u64 p] w fun e w' => ∃ v', e = .returned v' ∧ (∀ W, SV W v xs → SV W v' (restAt p xs)) ∧ Below w.heap.size w w' := by
  obtain ⟨ao, cap, e, hcap, hmax, hnil, hblk, hcells⟩ := hv
  have hv : SV w v xs := ⟨ao, cap, e, hcap, hmax, hnil, hblk, hcells⟩
  have HS : Hid (Calls Try.prog 85 #[.int .i64 (xs.length : Int), .func (.func 86) #[] #[.pointer (some ⟨w.heap.size, 0, none⟩), .pointer (some ⟨w.heap.size + 1, 0, none⟩)]] ((w.alloc (Obj.cells #[v] 77)).alloc (Obj.cells #[.int .u64 p] 24))
      fun e w' => e = .returned (.int .i64 ((ends p xs : Nat) : Int)) ∧ Below (w.heap.size + 1 + 1) ((w.alloc (Obj.cells #[v] 77)).alloc (Obj.cells #[.int .u64 p] 24)) w') := by
    obtain ⟨W2, hW2⟩ : ∃ W2, (w.alloc (Obj.cells #[v] 77)).alloc (Obj.cells #[.int .u64 p] 24) = W2 := ⟨_, rfl⟩
    have hz : W2.heap.size = w.heap.size + 1 + 1 := by rw [← hW2]; simp
    have k0 : W2.cell? ⟨w.heap.size, 0, none⟩ = some v := by
      rw [← hW2]
      exact cell_alloc' _ (by rw [cell_of_row _ _ 0 _ _ _ (heap_alloc_new w _)]; rfl)
    have k1 : W2.cell? ⟨w.heap.size + 1, 0, none⟩ = some (.int .u64 p) := by
      have := heap_alloc_new (w.alloc (Obj.cells #[v] 77)) (Obj.cells #[.int .u64 p] 24)
      rw [show (w.alloc (Obj.cells #[v] 77)).heap.size = w.heap.size + 1 by simp] at this
      rw [← hW2, cell_of_row _ _ 0 _ _ _ this]; rfl
    have hv2 : SV W2 v xs := by rw [← hW2]; exact (hv.alloc _).alloc _
    rw [hW2]
    have hbg : ∀ m os, Below W2.heap.size W2 (Go.Sort.grow (W2.drewN m) os) := fun m os => ⟨rfl, rfl, rfl, by simp, fun k hk => by rw [Go.Sort.heap_grow_old _ _ (by simpa using hk)]; rfl⟩
    have := Any.sort_Search search 86 #[.pointer (some ⟨w.heap.size, 0, none⟩), .pointer (some ⟨w.heap.size + 1, 0, none⟩)] xs.length (fun i => decide (p ≤ (xs[i]!).2)) W2 (enters_of Try.func86 (by kernel_rfl) rfl) (by omega) (fun m os i hi => by
      have hc := from1_any (W := Go.Sort.grow (W2.drewN m) os) (i := i) ((hbg m os).cell (p := ⟨w.heap.size, 0, none⟩) (by show w.heap.size < _; omega) ▸ k0) ((hbg m os).cell (p := ⟨w.heap.size + 1, 0, none⟩) (by show w.heap.size + 1 < _; omega) ▸ k1) (hv2.below (hbg m os) (Nat.le_refl _)) hi
      refine hc.mono ?_
      rintro e w' ⟨rfl, q, rfl⟩
      refine ⟨by rw [getElem!_pos xs i hi], q, #[], by simp⟩) (hmono hc)
    refine Calls.mono this ?_
    rintro e w' ⟨rfl, q, os, rfl⟩
    refine ⟨by rw [ends_range], ?_⟩
    rw [← hz]
    exact hbg q os
  have hle := ends_le p xs
  obtain ⟨k, hk⟩ : ∃ k, k = ends p xs := ⟨_, rfl⟩
  unfold restAt
  rw [← hk] at HS hle ⊢
  subst e
  clear hcells hc hv hk
  unfold maxLen at hmax
  have HB0 : Hid (∀ a b, Below w.heap.size w ((w.alloc a).alloc b)) := fun a b => ((Below.refl _ _).alloc (Nat.le_refl _) _).alloc (by simp) _
  cases ao with
  | none =>
    obtain ⟨rfl, rfl⟩ := hnil rfl
    obtain rfl : k = 0 := by simpa using hle
    clear hnil hblk
    go_enter Try.func76, Try.ntmps76
    go_wp2_with fail
    refine HS.out.mono ?_
    rintro e w2 ⟨rfl, hb2⟩
    have c0 : w2.cell? ⟨w.heap.size, 0, none⟩ = some (.slice none 0 0) := by
      rw [hb2.cell (p := ⟨w.heap.size, 0, none⟩) (by show w.heap.size < _; omega)]
      exact cell_alloc' _ (by rw [cell_of_row _ _ 0 _ _ _ (heap_alloc_new w _)]; rfl)
    have HB2 : Hid (Below w.heap.size w w2) := (HB0.out _ _).trans (hb2.mono (by omega))
    clear hb2
    go_wp2_with fail
    go_ret
    exact ⟨_, rfl, fun W h => h, HB2.out⟩
  | some a =>
    obtain ⟨g, off, rfl, hg⟩ := hblk _ rfl
    clear hnil hblk hg
    obtain ⟨n, hn⟩ : ∃ n, n = xs.length := ⟨_, rfl⟩
    have HN : Hid (k ≤ xs.length) := hle
    rw [← hn] at HS hl hcap hle ⊢
    clear hn
    by_cases hkc : k = cap
    · subst hkc
      go_enter Try.func76, Try.ntmps76
      go_wp2_with fail
      refine HS.out.mono ?_
      rintro e w2 ⟨rfl, hb2⟩
      have c0 : w2.cell? ⟨w.heap.size, 0, none⟩ = some (.slice (some ⟨g, off, none⟩) n k) := by
        rw [hb2.cell (p := ⟨w.heap.size, 0, none⟩) (by show w.heap.size < _; omega)]
        exact cell_alloc' _ (by rw [cell_of_row _ _ 0 _ _ _ (heap_alloc_new w _)]; rfl)
      have HB2 : Hid (Below w.heap.size w w2) := (HB0.out _ _).trans (hb2.mono (by omega))
      clear hb2
      go_wp2_with fail
      go_ret
      exact ⟨_, rfl, fun W h => h.dropAll, HB2.out⟩
    · go_enter Try.func76, Try.ntmps76
      go_wp2_with fail
      refine HS.out.mono ?_
      rintro e w2 ⟨rfl, hb2⟩
      have c0 : w2.cell? ⟨w.heap.size, 0, none⟩ = some (.slice (some ⟨g, off, none⟩) n cap) := by
        rw [hb2.cell (p := ⟨w.heap.size, 0, none⟩) (by show w.heap.size < _; omega)]
        exact cell_alloc' _ (by rw [cell_of_row _ _ 0 _ _ _ (heap_alloc_new w _)]; rfl)
      have HB2 : Hid (Below w.heap.size w w2) := (HB0.out _ _).trans (hb2.mono (by omega))
      clear hb2
      go_wp2_with fail
      go_ret
      exact ⟨_, rfl, fun W h => h.drop HN.out, HB2.out⟩
end Go.Proofs.Ytehedllcdpjebaa.U64
