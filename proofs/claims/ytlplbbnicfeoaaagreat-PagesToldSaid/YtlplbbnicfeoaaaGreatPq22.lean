import Derived.Test.YtlplbbnicfeoaaaGreatPq20
import Derived.Test.YtlplbbnicfeoaaaGreatPq21
import Derived.Laws.StructEq
import Derived.Test.YtlplbbnicfeoaaaGreatPq17
import Derived.Test.YtlplbbnicfeoaaaGreatPq16
/- from: the spans that don't end below a point. Own work. -/
namespace Go.Proofs.YtlplbbnicfeoaaaGreat.U64
open Go.RowKit Go.Shelf Go.Proofs.YtlplbbnicfeoaaaGreat.Sp

set_option maxHeartbeats 1000000 in
theorem from1_any {W : World} {v : Value} {xs : List Sp} {p : Int} {bs bp i : Nat} (hs : W.cell? ⟨bs, 0, none⟩ = some v) (hp : W.cell? ⟨bp, 0, none⟩ = some (.int .u64 p)) (hv : SV W v xs) (hi : i < xs.length) :
    Calls Tryz.prog 116 #[.int .i64 (i : Int), .pointer (some ⟨bs, 0, none⟩), .pointer (some ⟨bp, 0, none⟩)] W fun e w' => e = .returned (.bool (decide (p ≤ xs[i].2))) ∧ ∃ q, w' = W.drewN q := by
  obtain ⟨ao, cap, rfl, h1, h2, h3, h4, h5⟩ := hv
  obtain ⟨g, off, rfl, c0, c1⟩ := h5 i hi
  unfold maxLen at h2
  clear h5 h4 h3 c0
  obtain ⟨z, hz⟩ : ∃ z, z = xs[i].2 := ⟨_, rfl⟩
  rw [← hz] at c1 ⊢
  clear hz
  go_enter Tryz.func116, Tryz.ntmps116
  go_wp2_with fail
  go_quiet (fail)
  go_wp2_with fail
  go_ret
  exact ⟨rfl, _, rfl⟩
theorem SV.drop {w : World} {g off cap n : Nat} {xs : List Sp} (h : SV w (.slice (some ⟨g, off, none⟩) n cap) xs) {k : Nat} (hk : k ≤ xs.length) : SV w (.slice (some ⟨g, off + k * 2, none⟩) (n - k) (cap - k)) (xs.drop k) := by
  obtain ⟨ao, cap, e, h1, h2, h3, h4, h5⟩ := h
  cases e
  obtain ⟨g', off', e', hg⟩ := h4 _ rfl
  cases e'
  refine ⟨_, _, by rw [List.length_drop], by simp; omega, by omega, fun e => (by cases e), fun a e => (by cases e; exact ⟨g, _, rfl, hg⟩), fun j hj => ?_⟩
  obtain ⟨g', off', e', d0, d1⟩ := h5 (k + j) (by simp at hj; omega)
  cases e'
  refine ⟨g, off + k * 2, rfl, ?_, ?_⟩
  · rw [show off + k * 2 + j * 2 = off + (k + j) * 2 by omega, List.getElem_drop]; exact d0
  · rw [show off + k * 2 + j * 2 + 1 = off + (k + j) * 2 + 1 by omega, List.getElem_drop]; exact d1
theorem SV.dropAll {w : World} {g off n : Nat} {xs : List Sp} {k : Nat} (h : SV w (.slice (some ⟨g, off, none⟩) n k) xs) : SV w (.slice (some ⟨g, off, none⟩) 0 0) (xs.drop k) := by
  obtain ⟨ao, cap, e, h1, h2, h3, h4, h5⟩ := h
  cases e
  rw [List.drop_eq_nil_of_le (by omega)]
  exact ⟨_, _, rfl, Nat.le_refl _, Nat.zero_le _, fun e => (by cases e), h4, fun j hj => by simp at hj⟩
set_option maxHeartbeats 1000000 in
theorem from_any {w : World} {v : Value} {xs : List Sp} {p : Int} (hv : SV w v xs) (hc : Canon 18446744073709551615 xs) (hl : xs.length ≤ 1152921504606846976) :
    Calls Tryz.prog 106 #[.agg #[v], .int .u64 p] w fun e w' => ∃ v', e = .returned v' ∧ (∀ W, SV W v xs → SV W v' (restAt p xs)) ∧ Below w.heap.size w w' := by
  obtain ⟨ao, cap, e, hcap, hmax, hnil, hblk, hcells⟩ := hv
  have hv : SV w v xs := ⟨ao, cap, e, hcap, hmax, hnil, hblk, hcells⟩
  have HS : Hid (Calls Tryz.prog 115 #[.int .i64 (xs.length : Int), .func (.func 116) #[] #[.pointer (some ⟨w.heap.size, 0, none⟩), .pointer (some ⟨w.heap.size + 1, 0, none⟩)]] ((w.alloc (Obj.cells #[v] 90)).alloc (Obj.cells #[.int .u64 p] 23))
      fun e w' => e = .returned (.int .i64 ((ends p xs : Nat) : Int)) ∧ Below (w.heap.size + 1 + 1) ((w.alloc (Obj.cells #[v] 90)).alloc (Obj.cells #[.int .u64 p] 23)) w') := by
    obtain ⟨W2, hW2⟩ : ∃ W2, (w.alloc (Obj.cells #[v] 90)).alloc (Obj.cells #[.int .u64 p] 23) = W2 := ⟨_, rfl⟩
    have hz : W2.heap.size = w.heap.size + 1 + 1 := by rw [← hW2]; simp
    have k0 : W2.cell? ⟨w.heap.size, 0, none⟩ = some v := by
      rw [← hW2]
      exact cell_alloc' _ (by rw [cell_of_row _ _ 0 _ _ _ (heap_alloc_new w _)]; rfl)
    have k1 : W2.cell? ⟨w.heap.size + 1, 0, none⟩ = some (.int .u64 p) := by
      have := heap_alloc_new (w.alloc (Obj.cells #[v] 90)) (Obj.cells #[.int .u64 p] 23)
      rw [show (w.alloc (Obj.cells #[v] 90)).heap.size = w.heap.size + 1 by simp] at this
      rw [← hW2, cell_of_row _ _ 0 _ _ _ this]; rfl
    have hv2 : SV W2 v xs := by rw [← hW2]; exact (hv.alloc _).alloc _
    rw [hW2]
    have hbg : ∀ m os, Below W2.heap.size W2 (Go.Sort.grow (W2.drewN m) os) := fun m os => ⟨rfl, rfl, rfl, by simp, fun k hk => by rw [Go.Sort.heap_grow_old _ _ (by simpa using hk)]; rfl⟩
    have := Any.sort_Search search 116 #[.pointer (some ⟨w.heap.size, 0, none⟩), .pointer (some ⟨w.heap.size + 1, 0, none⟩)] xs.length (fun i => decide (p ≤ (xs[i]!).2)) W2 (enters_of Tryz.func116 (by kernel_rfl) rfl) (by omega) (fun m os i hi => by
      have hc := from1_any (W := Go.Sort.grow (W2.drewN m) os) (i := i) ((hbg m os).cell (p := ⟨w.heap.size, 0, none⟩) (by show w.heap.size < _; omega) ▸ k0) ((hbg m os).cell (p := ⟨w.heap.size + 1, 0, none⟩) (by show w.heap.size + 1 < _; omega) ▸ k1) (hv2.below (hbg m os) (Nat.le_refl _)) hi
      refine hc.mono ?_
      rintro e w' ⟨rfl, q, rfl⟩
      refine ⟨by rw [getElem!_pos xs i hi], q, #[], by simp⟩) (hmono hc)
    refine Calls.mono this ?_
    rintro e w' ⟨rfl, q, os, rfl⟩
    refine ⟨by rw [ends_range], ?_⟩
    rw [← hz]
    exact hbg q os
  have hle := ends_le p xs
  obtain ⟨k, hk⟩ : ∃ k, k = ends p xs := ⟨_, rfl⟩
  unfold restAt
  rw [← hk] at HS hle ⊢
  subst e
  clear hcells hc hv hk
  unfold maxLen at hmax
  have HB0 : Hid (∀ a b, Below w.heap.size w ((w.alloc a).alloc b)) := fun a b => ((Below.refl _ _).alloc (Nat.le_refl _) _).alloc (by simp) _
  cases ao with
  | none =>
    obtain ⟨rfl, rfl⟩ := hnil rfl
    obtain rfl : k = 0 := by simpa using hle
    clear hnil hblk
    go_enter Tryz.func106, Tryz.ntmps106
    go_wp2_with fail
    refine HS.out.mono ?_
    rintro e w2 ⟨rfl, hb2⟩
    have c0 : w2.cell? ⟨w.heap.size, 0, none⟩ = some (.slice none 0 0) := by
      rw [hb2.cell (p := ⟨w.heap.size, 0, none⟩) (by show w.heap.size < _; omega)]
      exact cell_alloc' _ (by rw [cell_of_row _ _ 0 _ _ _ (heap_alloc_new w _)]; rfl)
    have HB2 : Hid (Below w.heap.size w w2) := (HB0.out _ _).trans (hb2.mono (by omega))
    clear hb2
    go_wp2_with fail
    go_ret
    exact ⟨_, rfl, fun W h => h, HB2.out⟩
  | some a =>
    obtain ⟨g, off, rfl, hg⟩ := hblk _ rfl
    clear hnil hblk hg
    obtain ⟨n, hn⟩ : ∃ n, n = xs.length := ⟨_, rfl⟩
    have HN : Hid (k ≤ xs.length) := hle
    rw [← hn] at HS hl hcap hle ⊢
    clear hn
    by_cases hkc : k = cap
    · subst hkc
      go_enter Tryz.func106, Tryz.ntmps106
      go_wp2_with fail
      refine HS.out.mono ?_
      rintro e w2 ⟨rfl, hb2⟩
      have c0 : w2.cell? ⟨w.heap.size, 0, none⟩ = some (.slice (some ⟨g, off, none⟩) n k) := by
        rw [hb2.cell (p := ⟨w.heap.size, 0, none⟩) (by show w.heap.size < _; omega)]
        exact cell_alloc' _ (by rw [cell_of_row _ _ 0 _ _ _ (heap_alloc_new w _)]; rfl)
      have HB2 : Hid (Below w.heap.size w w2) := (HB0.out _ _).trans (hb2.mono (by omega))
      clear hb2
      go_wp2_with fail
      go_ret
      exact ⟨_, rfl, fun W h => h.dropAll, HB2.out⟩
    · go_enter Tryz.func106, Tryz.ntmps106
      go_wp2_with fail
      refine HS.out.mono ?_
      rintro e w2 ⟨rfl, hb2⟩
      have c0 : w2.cell? ⟨w.heap.size, 0, none⟩ = some (.slice (some ⟨g, off, none⟩) n cap) := by
        rw [hb2.cell (p := ⟨w.heap.size, 0, none⟩) (by show w.heap.size < _; omega)]
        exact cell_alloc' _ (by rw [cell_of_row _ _ 0 _ _ _ (heap_alloc_new w _)]; rfl)
      have HB2 : Hid (Below w.heap.size w w2) := (HB0.out _ _).trans (hb2.mono (by omega))
      clear hb2
      go_wp2_with fail
      go_ret
      exact ⟨_, rfl, fun W h => h.drop HN.out, HB2.out⟩
end Go.Proofs.YtlplbbnicfeoaaaGreat.U64
/- Covers, Has, Next, Touches, Same. Own work. -/
namespace Go.Proofs.YtlplbbnicfeoaaaGreat.U64
open Go.RowKit Go.Shelf Go.Proofs.YtlplbbnicfeoaaaGreat.Sp

set_option maxHeartbeats 2000000 in
theorem covers_any {w : World} {v : Value} {xs : List Sp} {x : Sp} (hv : SV w v xs) (hc : Canon 18446744073709551615 xs) (hl : xs.length ≤ 1152921504606846976) :
    Calls Tryz.prog 104 #[.agg #[v], .agg #[.int .u64 x.1, .int .u64 x.2]] w fun e w' => e = .returned (.bool (coversB xs x)) ∧ Below w.heap.size w w' := by
  have HB0 : Hid (∀ a b c, Below w.heap.size w (((w.alloc a).alloc b).alloc c)) := fun a b c => (((Below.refl _ _).alloc (Nat.le_refl _) _).alloc (by simp) _).alloc (by simp; omega) _
  have HV : Hid (SV w v xs) := hv
  have HC : Hid (Canon 18446744073709551615 xs) := hc
  have d0 := fun X : Obj => cell_alloc' X (cell_alloc' (w := w.alloc (Obj.cells #[v] 90)) (Obj.cells #[.int .u64 x.1, .int .u64 x.2] 132) (show (w.alloc (Obj.cells #[v] 90)).cell? ⟨w.heap.size, 0, none⟩ = some v by rw [cell_of_row _ _ 0 _ _ _ (heap_alloc_new w _)]; rfl))
  have d1 := fun X : Obj => cell_alloc' X (new2 (W := w.alloc (Obj.cells #[v] 90)) (n := w.heap.size + 1) (by simp) (.int .u64 x.1) (.int .u64 x.2) 132).1
  have d2 := fun X : Obj => cell_alloc' X (new2 (W := w.alloc (Obj.cells #[v] 90)) (n := w.heap.size + 1) (by simp) (.int .u64 x.1) (.int .u64 x.2) 132).2
  clear hv hc
  by_cases he : x.2 < x.1
  · have hs : coversB xs x = true := by simp [coversB, he]
    rw [hs]
    have hd : decide (x.2 < x.1) = true := decide_eq_true he
    clear hs
    go_enter Tryz.func104, Tryz.ntmps104
    go_wp2_with fail
    refine (empty_any x _).mono ?_
    rintro e w' ⟨rfl, X, rfl⟩
    rw [hd]
    go_wp2_with fail
    go_ret
    exact ⟨rfl, HB0.out _ _ _⟩
  · have hd : decide (x.2 < x.1) = false := decide_eq_false he
    obtain ⟨b, hb⟩ : ∃ b, b = coversB xs x := ⟨_, rfl⟩
    rw [← hb]
    have HR : Hid (b = coversB xs x) := hb
    clear hb
    go_enter Tryz.func104, Tryz.ntmps104
    go_wp2_with fail
    refine (empty_any x _).mono ?_
    rintro e w' ⟨rfl, X, rfl⟩
    rw [hd]
    go_wp2_with fail
    refine (from_any (p := x.1) (HV.out.below (HB0.out _ _ _) (Nat.le_refl _)) HC.out hl).mono ?_
    rintro e w2 ⟨v2, rfl, h2, hb2⟩
    have h2' := h2 _ (HV.out.below ((HB0.out (Obj.cells #[v] 90) (Obj.cells #[.int .u64 x.1, .int .u64 x.2] 132) X).trans (hb2.mono (by simp; omega))) (Nat.le_refl _))
    have HB2 : Hid (Below w.heap.size w w2) := (HB0.out (Obj.cells #[v] 90) (Obj.cells #[.int .u64 x.1, .int .u64 x.2] 132) X).trans (hb2.mono (by simp; omega))
    have e1 : w2.cell? ⟨w.heap.size + 1, 0, none⟩ = some (.int .u64 x.1) := (hb2.cell (p := ⟨w.heap.size + 1, 0, none⟩) (by simp)).trans (d1 X)
    have e2 : w2.cell? ⟨w.heap.size + 1, 1, none⟩ = some (.int .u64 x.2) := (hb2.cell (p := ⟨w.heap.size + 1, 1, none⟩) (by simp)).trans (d2 X)
    clear h2 hb2 d0 d1 d2
    obtain ⟨ao, cap, rfl, _, _, _, _, h5⟩ := h2'
    cases hr : restAt x.1 xs with
    | nil =>
      rw [hr] at h5
      clear h5
      simp only [List.length_nil]
      have HE : Hid (b = false) := show b = false by rw [HR.out, coversB, if_neg (show ¬ x.2 < x.1 by omega), hr]
      clear hr
      go_wp2_with fail
      go_quiet (fail)
      go_wp2_with fail
      go_ret
      exact ⟨by rw [HE.out]; rfl, below_drewN' HB2.out _⟩
    | cons y r =>
      rw [hr] at h5
      obtain ⟨g, off, rfl, c0, c1⟩ := h5 0 (by simp)
      simp only [List.getElem_cons_zero, Nat.zero_mul, Nat.add_zero] at c0 c1
      simp only [List.length_cons]
      have HE : Hid (b = (decide (y.1 ≤ x.1) && decide (x.2 ≤ y.2))) := show b = _ by rw [HR.out, coversB, if_neg (show ¬ x.2 < x.1 by omega), hr]
      clear h5 hr
      by_cases h1 : y.1 ≤ x.1
      · have hd1 : decide (y.1 ≤ x.1) = true := decide_eq_true h1
        go_wp2_with fail
        go_quiet (fail)
        go_wp2_with fail
        go_ret
        exact ⟨by rw [HE.out, hd1]; rfl, below_drewN' HB2.out _⟩
      · have hd1 : decide (y.1 ≤ x.1) = false := decide_eq_false h1
        go_wp2_with fail
        go_quiet (fail)
        go_wp2_with fail
        go_ret
        exact ⟨by rw [HE.out, hd1]; rfl, below_drewN' HB2.out _⟩

set_option maxHeartbeats 1000000 in
theorem next_any {w : World} {v : Value} {xs : List Sp} {p : Int} (hv : SV w v xs) (hc : Canon 18446744073709551615 xs) (hl : xs.length ≤ 1152921504606846976) :
    Calls Tryz.prog 91 #[.agg #[v], .int .u64 p] w fun e w' => e = .returned (.tuple #[.int .u64 (nextB p xs).1, .bool (nextB p xs).2]) ∧ Below w.heap.size w w' := by
  have HV : Hid (∀ X, SV (w.alloc X) v xs) := fun X => hv.alloc X
  have HC : Hid (∀ X, Calls Tryz.prog 106 #[.agg #[v], .int .u64 p] (w.alloc X) fun e w' => ∃ v', e = .returned v' ∧ (∀ W, SV W v xs → SV W v' (restAt p xs)) ∧ Below (w.alloc X).heap.size (w.alloc X) w') := fun X => from_any (hv.alloc X) hc hl
  obtain ⟨n, b, hnb⟩ : ∃ n b, nextB p xs = (n, b) := ⟨_, _, rfl⟩
  rw [hnb]
  have HN : Hid (nextB p xs = (n, b)) := hnb
  clear hv hc hl hnb
  go_enter Tryz.func91, Tryz.ntmps91
  go_wp2_with fail
  refine (HC.out _).mono ?_
  rintro e w2 ⟨v2, rfl, h2, hb2⟩
  have h2' := h2 _ ((HV.out _).below hb2 (Nat.le_refl _))
  have HB2 : Hid (Below w.heap.size w w2) := ((Below.refl _ _).alloc (Nat.le_refl _) _).trans (hb2.mono (by simp))
  clear hb2 HC h2
  obtain ⟨ao, cap, rfl, _, _, _, _, h5⟩ := h2'
  have hnb := HN.out
  unfold nextB at hnb
  cases hr : restAt p xs with
  | nil =>
    rw [hr] at h5 hnb
    cases hnb
    clear h5 hr
    simp only [List.length_nil]
    go_wp2_with fail
    go_ret2
    exact ⟨rfl, HB2.out⟩
  | cons y r =>
    rw [hr] at h5 hnb
    obtain ⟨g, off, rfl, c0, c1⟩ := h5 0 (by simp)
    simp only [List.getElem_cons_zero, Nat.zero_mul, Nat.add_zero] at c0 c1
    simp only [List.length_cons]
    have hn : n = max p y.1 ∧ b = true := by cases hnb; exact ⟨rfl, rfl⟩
    clear h5 hr hnb c1
    obtain ⟨hn, rfl⟩ := hn
    have HMx : Hid (n = max p y.1) := hn
    clear hn
    go_wp2_with fail
    all_goals
      go_ret2
      exact ⟨by have := HMx.out; simp; omega, HB2.out⟩
set_option maxHeartbeats 1000000 in
theorem touches_any {w : World} {v : Value} {xs : List Sp} {x : Sp} (hv : SV w v xs) (hc : Canon 18446744073709551615 xs) (hl : xs.length ≤ 1152921504606846976) :
    Calls Tryz.prog 83 #[.agg #[v], .agg #[.int .u64 x.1, .int .u64 x.2]] w fun e w' => e = .returned (.bool (touchesB xs x)) ∧ Below w.heap.size w w' := by
  have HB0 : Hid (∀ a b, Below w.heap.size w ((w.alloc a).alloc b)) := fun a b => ((Below.refl _ _).alloc (Nat.le_refl _) _).alloc (by simp) _
  have HC : Hid (∀ X Y, Calls Tryz.prog 91 #[.agg #[v], .int .u64 x.1] ((w.alloc X).alloc Y) fun e w' => e = .returned (.tuple #[.int .u64 (nextB x.1 xs).1, .bool (nextB x.1 xs).2]) ∧ Below ((w.alloc X).alloc Y).heap.size ((w.alloc X).alloc Y) w') := fun X Y => next_any ((hv.alloc X).alloc Y) hc hl
  have d2 := (new2 (W := w.alloc (Obj.cells #[v] 90)) (n := w.heap.size + 1) (by simp) (.int .u64 x.1) (.int .u64 x.2) 132).2
  obtain ⟨b, hb⟩ : ∃ b, b = touchesB xs x := ⟨_, rfl⟩
  rw [← hb]
  unfold touchesB at hb
  obtain ⟨n, c, hn⟩ : ∃ n c, nextB x.1 xs = (n, c) := ⟨_, _, rfl⟩
  rw [hn] at HC hb
  have HR : Hid (b = (c && decide (n ≤ x.2))) := hb
  clear hv hc hl hn hb
  go_enter Tryz.func83, Tryz.ntmps83
  go_wp2_with fail
  refine (HC.out _ _).mono ?_
  rintro e w2 ⟨rfl, hb2⟩
  have HB2 : Hid (Below w.heap.size w w2) := (HB0.out (Obj.cells #[v] 90) (Obj.cells #[.int .u64 x.1, .int .u64 x.2] 132)).trans (hb2.mono (by simp; omega))
  have e2 : w2.cell? ⟨w.heap.size + 1, 1, none⟩ = some (.int .u64 x.2) := (hb2.cell (p := ⟨w.heap.size + 1, 1, none⟩) (by simp)).trans d2
  clear hb2 HC d2
  cases c with
  | false =>
    go_wp2_with fail
    go_ret
    exact ⟨by rw [HR.out]; rfl, HB2.out⟩
  | true =>
    go_wp2_with fail
    go_ret
    exact ⟨by rw [HR.out]; rfl, HB2.out⟩
end Go.Proofs.YtlplbbnicfeoaaaGreat.U64
/- beyond, Size, Largest. Own work. -/
namespace Go.Proofs.YtlplbbnicfeoaaaGreat.U64
open Go.RowKit Go.Shelf Go.Proofs.YtlplbbnicfeoaaaGreat.Sp

theorem beyond_any {x : Sp} (h : 0 ≤ x.1 ∧ x.1 ≤ x.2 ∧ x.2 ≤ 18446744073709551615) (w : World) : Calls Tryz.prog 70 #[.agg #[.int .u64 x.1, .int .u64 x.2]] w fun e w' => e = .returned (.int .u64 (x.2 - x.1)) ∧ ∃ X, w' = w.alloc X := by
  go_enter Tryz.func70, Tryz.ntmps70
  go_wp2
  go_ret
  exact ⟨rfl, _, rfl⟩
set_option maxHeartbeats 2000000 in
theorem size_any {w : World} {v : Value} {xs : List Sp} (hv : SV w v xs) (hc : Canon 18446744073709551615 xs) :
    Calls Tryz.prog 41 #[.agg #[v]] w fun e w' => e = .returned (.tuple #[.int .u64 (sizeB xs).1, .bool (sizeB xs).2]) ∧ Below w.heap.size w w' := by
  have HV : Hid (∀ X, SV (w.alloc X) v xs) := fun X => hv.alloc X
  have HC : Hid (Canon 18446744073709551615 xs) := hc
  obtain ⟨ao, cap, rfl, h1, h2, h3, h4, h5⟩ := hv
  unfold maxLen at h2
  clear h3 h4 h5 hc
  go_enter Tryz.func41, Tryz.ntmps41
  go_wp2_with fail
  obtain ⟨W0, hW0⟩ : ∃ W0, w.alloc (Obj.cells #[.slice ao xs.length cap] 90) = W0 := ⟨_, rfl⟩
  have HV0 : Hid (SV W0 (.slice ao xs.length cap) xs) := hW0 ▸ HV.out _
  have HB0 : Hid (Below w.heap.size w W0) := hW0 ▸ (Below.refl _ _).alloc (Nat.le_refl _) _
  rw [hW0]
  clear hW0 HV
  go_loopw [4, 5, 11] (fun n b i wr => ∃ k : Nat, k ≤ xs.length ∧ i = .int .i64 (k : Int) ∧ n = .int .u64 (sizeB (xs.take k)).1 ∧ b = .bool (sizeB (xs.take k)).2 ∧ Hid (Below W0.heap.size W0 wr)) (fun _ _ i _ => xs.length - (intOf i).toNat)
  case atStart => exact ⟨0, Nat.zero_le _, rfl, rfl, rfl, Below.refl _ _⟩
  case round =>
    obtain ⟨k, hk, rfl, rfl, rfl, HB⟩ := hrel
    by_cases hlt : k < xs.length
    · obtain ⟨ao', cap', e, _, _, _, _, h5⟩ := HV0.out.below HB.out (Nat.le_refl _)
      cases e
      obtain ⟨g, off, rfl, d0, d1⟩ := h5 k hlt
      clear h5
      have hb := HC.out.1 xs[k] (List.getElem_mem _)
      have ha := tot_ahead HC.out hlt
      have hn := tot_nonneg (canon_take HC.out k)
      have ht := tot_take hlt
      obtain ⟨x, hx⟩ : ∃ x, x = xs[k] := ⟨_, rfl⟩
      rw [← hx] at d0 d1 hb ha ht
      obtain ⟨T, hT⟩ : ∃ T, T = tot (xs.take k) := ⟨_, rfl⟩
      have hs : sizeB (xs.take k) = (T, true) := by simp only [sizeB]; rw [if_pos (by omega), hT]
      have hs2 : sizeB (xs.take (k + 1)) = U64.addB (T + (x.2 - x.1)) 1 := by
        simp only [sizeB, U64.addB, ht, ← hT]
        rw [show T + (x.2 - x.1 + 1) = T + (x.2 - x.1) + 1 by omega]
      rw [← hT] at ha hn
      rw [hs]
      have HS2 : Hid (sizeB (xs.take (k + 1)) = U64.addB (T + (x.2 - x.1)) 1) := hs2
      have HB3 : Hid (∀ X Y, Below W0.heap.size W0 ((wr.alloc X).alloc Y)) := fun X Y => (HB.out.alloc HB.out.size X).alloc (by have := HB.out.size; simp; omega) Y
      have HA : Hid (∀ W, Calls Tryz.prog 32 #[.int .u64 (T + (x.2 - x.1)), .int .u64 1] W fun e w' => e = .returned (.tuple #[.int .u64 (U64.addB (T + (x.2 - x.1)) 1).1, .bool (U64.addB (T + (x.2 - x.1)) 1).2]) ∧ w' = W) := fun W => U64.add_any (by omega) (by omega) W
      clear hx hT hs hs2 ht
      go_wp2_with fail
      refine (beyond_any hb _).mono ?_
      rintro e w' ⟨rfl, X, rfl⟩
      go_wp2_with fail
      refine (HA.out _).mono ?_
      rintro e w' ⟨rfl, rfl⟩
      clear HA
      go_wp2_with fail
      go_roundw
      case rel => exact ⟨k + 1, by omega, by go_num, by rw [HS2.out], by rw [HS2.out], HB3.out _ _⟩
      case measure => simp [intOf]; omega
    · obtain rfl : k = xs.length := by omega
      rw [List.take_length]
      go_wp2_with fail
      go_ret2
      exact ⟨rfl, HB0.out.trans (HB.out.mono HB0.out.size)⟩

end Go.Proofs.YtlplbbnicfeoaaaGreat.U64
/- off: the first byte of an access that is off the bus. Own work. -/
namespace Go.Proofs.YtlplbbnicfeoaaaGreat
open Go.RowKit Go.Maps Go.Proofs.YtlplbbnicfeoaaaGreat.Sp
def OffR (rs : List Sp) (a n : Nat) (x : Int) (b : Bool) : Prop :=
  (b = true → ∃ i : Nat, i < n ∧ x = (a : Int) + i ∧ (a : Int) + i ≤ 18446744073709551615 ∧ ¬ On rs ((a : Int) + i) ∧ ∀ j : Nat, j < i → On rs ((a : Int) + j)) ∧
  (b = false → x = 0 ∧ ∀ i : Nat, i < n → On rs ((a : Int) + i))
def LastR (a n : Nat) (last : Int) : Prop := (a : Int) ≤ last ∧ last ≤ 18446744073709551615 ∧ (last = a + ((n : Int) - 1) ∨ (last = 18446744073709551615 ∧ 18446744073709551615 < (a : Int) + ((n : Int) - 1)))
theorem off_none {rs : List Sp} {G : List Sp} {a n : Nat} {last : Int} (hc : Canon 18446744073709551615 G) (hi : ∀ p, In p G ↔ On rs p) (hs : Sane rs) (hok : LastR a n last) (h : coversB G ((a : Int), last) = true) : OffR rs a n 0 false := by
  refine ⟨fun h => (by cases h), fun _ => ⟨rfl, fun i hi' => ?_⟩⟩
  have hcov := (coversB_iff hc ((a : Int), last)).1 h
  obtain ⟨h0, h1, hl | ⟨hl, hov⟩⟩ := hok
  · exact (hi _).1 (hcov _ (by show (a : Int) ≤ _; omega) (by show _ ≤ last; omega))
  · exfalso
    obtain ⟨r, hr, h1, h2⟩ := (hi _).1 (hcov 18446744073709551615 (by show (a : Int) ≤ _; omega) (by show _ ≤ last; omega))
    have := hs r hr
    omega
theorem off_some {rs : List Sp} {G ts us : List Sp} {a n : Nat} {last x : Int} {b : Bool} (hc : Canon 18446744073709551615 G) (hi : ∀ p, In p G ↔ On rs p) (hok : LastR a n last) (h : coversB G ((a : Int), last) = false)
    (ht : OfR 18446744073709551615 [((a : Int), last)] ts) (hu : Made 18446744073709551615 (fun a b => a && !b) ts G us) (hcu : Canon 18446744073709551615 us) (hx : nextB a us = (x, b)) : OffR rs a n x b := by
  have hin : ∀ p, In p us ↔ ((a : Int) ≤ p ∧ p ≤ last) ∧ ¬ In p G := fun p => by
    rw [hu.less ht.1 p, ht.2.1 p, in_one]
  cases b with
  | false =>
    exfalso
    obtain ⟨_, hno⟩ := nextB_none hcu hx
    have : coversB G ((a : Int), last) = true := (coversB_iff hc _).2 fun p h1 h2 => by
      by_cases hp : In p G
      · exact hp
      · exact absurd ((hin p).2 ⟨⟨h1, h2⟩, hp⟩) (hno p h1)
    rw [this] at h
    cases h
  | true =>
    obtain ⟨h1, h2, h3⟩ := nextB_some hcu hx
    obtain ⟨⟨_, h4⟩, h5⟩ := (hin x).1 h2
    obtain ⟨l0, l1, hl⟩ := hok
    refine ⟨fun _ => ⟨(x - a).toNat, by omega, by omega, by omega, ?_, fun j hj => ?_⟩, fun h => by cases h⟩
    · rw [show (a : Int) + ((x - a).toNat : Nat) = x by omega]
      exact fun ho => h5 ((hi x).2 ho)
    · have := h3 ((a : Int) + j) (by omega) (by omega)
      by_cases hp : In ((a : Int) + j) G
      · exact (hi _).1 hp
      · exact absurd ((hin _).2 ⟨⟨by omega, by omega⟩, hp⟩) this
theorem cells3b {w w' : World} {p q r : Addr} {x y z : Value} (hb : Below w.heap.size w w') (h1 : w.cell? p = some x) (h2 : w.cell? q = some y) (h3 : w.cell? r = some z) : w'.cell? p = some x ∧ w'.cell? q = some y ∧ w'.cell? r = some z :=
  ⟨(hb.cell (World.block_lt_of_cell? w _ h1)).trans h1, (hb.cell (World.block_lt_of_cell? w _ h2)).trans h2, (hb.cell (World.block_lt_of_cell? w _ h3)).trans h3⟩
theorem cells3 {w w' : World} {p q r : Addr} {x y z : Value} (hb : Below w.drew.heap.size w.drew w') (h1 : w.cell? p = some x) (h2 : w.cell? q = some y) (h3 : w.cell? r = some z) : w'.cell? p = some x ∧ w'.cell? q = some y ∧ w'.cell? r = some z :=
  ⟨(hb.cell (World.block_lt_of_cell? w _ h1)).trans h1, (hb.cell (World.block_lt_of_cell? w _ h2)).trans h2, (hb.cell (World.block_lt_of_cell? w _ h3)).trans h3⟩
set_option maxRecDepth 100000 in
set_option maxHeartbeats 4000000 in
theorem off_any {w : World} {m B : Nat} {V : Value × Value × Value} {T : Nat → Option Nat} {M : Nat → Nat} {rs ds : List Sp} {L S X a n : Nat} (h : Mac w m B V T M rs ds L S X) (ha : a ≤ 18446744073709551615) (hn : n ≤ 9223372036854775807) :
    Calls Tryz.prog 88 #[.pointer (some ⟨m, 0, none⟩), .int .u64 (a : Int), .int .i64 (n : Int)] w fun e w' => ∃ x b, e = .returned (.tuple #[.int .u64 x, .bool b]) ∧ OffR (rs ++ ds) a n x b ∧ Below w.heap.size w w' := by
  obtain ⟨vr, vd, vg⟩ := V
  obtain ⟨G, h0, h1, h2, h3, h4, h5, h6, h7, h8, h9, h10⟩ := h
  simp only at h0 h1 h2 h3
  have c5 : w.cell? ⟨m, 5, none⟩ = some vg := by rw [cell_of_row w m _ _ _ _ h0]; rfl
  have HV : Hid (U64.SV w vg G) := h3
  have HC : Hid (Canon 18446744073709551615 G) := h4
  have HI : Hid (∀ p, In p G ↔ On (rs ++ ds) p) := h5
  have HS : Hid (Sane (rs ++ ds)) := h6
  have HL : Hid (G.length ≤ 64) := h7
  clear h0 h1 h2 h3 h4 h5 h6 h7 h8 h9 h10
  by_cases h0 : n = 0
  · subst h0
    go_enter Tryz.func88, Tryz.ntmps88
    go_wp2_with fail
    go_ret2
    exact ⟨0, false, rfl, ⟨fun h => (by cases h), fun _ => ⟨rfl, fun i hi => absurd hi (Nat.not_lt_zero _)⟩⟩, Below.refl _ _⟩
  · obtain ⟨last, okb, hadd, hl0, hl1, hok⟩ : ∃ (last : Int) (okb : Bool), U64.addB a ((n : Int) - 1) = (if okb then last else 0, okb) ∧ (a : Int) ≤ last ∧ last ≤ 18446744073709551615 ∧ ((okb = true ∧ last = a + ((n : Int) - 1)) ∨ (okb = false ∧ last = 18446744073709551615 ∧ 18446744073709551615 < (a : Int) + ((n : Int) - 1))) := by
      by_cases hov : (a : Int) + ((n : Int) - 1) ≤ 18446744073709551615
      · exact ⟨a + ((n : Int) - 1), true, if_pos hov, by omega, hov, .inl ⟨rfl, rfl⟩⟩
      · exact ⟨18446744073709551615, false, if_neg hov, by omega, by omega, .inr ⟨rfl, rfl, by omega⟩⟩
    have hlr : LastR a n last := ⟨hl0, hl1, hok.elim (fun h => .inl h.2) (fun h => .inr h.2)⟩
    have HNo : Hid (coversB G ((a : Int), last) = true → OffR (rs ++ ds) a n 0 false) := off_none HC.out HI.out HS.out hlr
    have HSo : Hid (∀ ts us x b, coversB G ((a : Int), last) = false → OfR 18446744073709551615 [((a : Int), last)] ts → Made 18446744073709551615 (fun a b => a && !b) ts G us → Canon 18446744073709551615 us → nextB a us = (x, b) → OffR (rs ++ ds) a n x b) := fun ts us x b h1 h2 h3 h4 h5 => off_some HC.out HI.out hlr h1 h2 h3 h4 h5
    have HOf : Hid (∀ W g, W.cell? ⟨g, 0, none⟩ = some (.int .u64 (a : Int)) → W.cell? ⟨g, 1, none⟩ = some (.int .u64 last) → Calls Tryz.prog 40 #[.slice (some ⟨g, 0, none⟩) 1 1] W fun e w' => ∃ a2 n2 c2, e = .returned (.agg #[.slice a2 n2 c2]) ∧ Below W.heap.size W w' ∧ Hid (∃ ts, U64.SV w' (.slice a2 n2 c2) ts ∧ OfR 18446744073709551615 [((a : Int), last)] ts)) := fun W g d0 d1 => by
      refine (U64.of_any (U64.one_sv (x := ((a : Int), last)) d0 d1) (fun y hy => by simp at hy; subst hy; omega) (by simp)).mono ?_
      rintro e w2 ⟨v2, ts, rfl, ho, hr, hb2⟩
      obtain ⟨a2, n2, c2, hv⟩ : ∃ a n c, v2 = .slice a n c := by
        obtain ⟨a, c, e, _⟩ := ho.sv
        exact ⟨a, _, c, e⟩
      subst hv
      exact ⟨a2, n2, c2, rfl, hb2, ts, ho.sv, hr⟩
    clear hlr
    have HLs : Hid (∀ w3 a2 n2 c2, Below w.heap.size w w3 → (∃ ts, U64.SV w3 (.slice a2 n2 c2) ts ∧ OfR 18446744073709551615 [((a : Int), last)] ts) → Calls Tryz.prog 105 #[.agg #[.slice a2 n2 c2], .agg #[vg]] w3 fun e w4 => ∃ a3 n3 c3, e = .returned (.agg #[.slice a3 n3 c3]) ∧ Below w3.heap.size w3 w4 ∧ Hid (∃ ts us, U64.SV w4 (.slice a3 n3 c3) us ∧ OfR 18446744073709551615 [((a : Int), last)] ts ∧ Made 18446744073709551615 (fun a b => a && !b) ts G us)) := fun w3 a2 n2 c2 hb3 ⟨ts, h1, h2⟩ => by
      refine (U64.less_any h1 (HV.out.below hb3 (Nat.le_refl _)) h2.1 HC.out (by have := h2.2.2; have := HL.out; simp at *; omega)).mono ?_
      rintro e w4 ⟨v4, us, rfl, ho, hm, hb4⟩
      obtain ⟨a3, n3, c3, hv⟩ : ∃ a n c, v4 = .slice a n c := by
        obtain ⟨a, c, e, _⟩ := ho.sv
        exact ⟨a, _, c, e⟩
      subst hv
      exact ⟨a3, n3, c3, rfl, hb4, ts, us, ho.sv, h2, hm⟩
    have HNx : Hid (coversB G ((a : Int), last) = false → ∀ w4 a3 n3 c3, (∃ ts us, U64.SV w4 (.slice a3 n3 c3) us ∧ OfR 18446744073709551615 [((a : Int), last)] ts ∧ Made 18446744073709551615 (fun a b => a && !b) ts G us) → Calls Tryz.prog 91 #[.agg #[.slice a3 n3 c3], .int .u64 (a : Int)] w4 fun e w5 => ∃ x b, e = .returned (.tuple #[.int .u64 x, .bool b]) ∧ Below w4.heap.size w4 w5 ∧ Hid (OffR (rs ++ ds) a n x b)) := fun hcv w4 a3 n3 c3 ⟨ts, us, h1, h2, h3⟩ => by
      refine (U64.next_any h1 h3.1 (by have k1 : ts.length ≤ 1 := h2.2.2; have k2 := h3.2.2; have k3 := HL.out; omega)).mono ?_
      rintro e w5 ⟨rfl, hb5⟩
      exact ⟨_, _, rfl, hb5, HSo.out ts us _ _ hcv h2 h3 h3.1 rfl⟩
    have HA : Hid (∀ W, Calls Tryz.prog 32 #[.int .u64 (a : Int), .int .u64 ((n : Int) - 1)] W fun e w' => e = .returned (.tuple #[.int .u64 (if okb then last else 0), .bool okb]) ∧ w' = W) := fun W => by
      have := U64.add_any (a := a) (b := (n : Int) - 1) (by omega) (by omega) W
      rw [hadd] at this
      exact this
    have hw1 : IntKind.u64.wrap ((n : Int) - 1) = (n : Int) - 1 := U64.wrap_in (by omega) (by omega)
    have HW : Hid (∃ W1, w.alloc (Obj.cells #[.int .u64 (a : Int), .int .u64 last] 132) = W1 ∧ Below w.heap.size w W1 ∧ W1.cell? ⟨m, 5, none⟩ = some vg ∧ W1.cell? ⟨w.heap.size, 0, none⟩ = some (.int .u64 (a : Int)) ∧ W1.cell? ⟨w.heap.size, 1, none⟩ = some (.int .u64 last) ∧ w.heap.size + 1 = W1.heap.size) := by
      refine ⟨_, rfl, (Below.refl _ _).alloc (Nat.le_refl _) _, U64.cell_alloc' _ c5, ?_, ?_, by simp⟩
      · exact (U64.new2 rfl _ _ _).1
      · exact (U64.new2 rfl _ _ _).2
    have HCov : Hid (∀ W, Below w.heap.size w W → Calls Tryz.prog 104 #[.agg #[vg], .agg #[.int .u64 (a : Int), .int .u64 last]] W fun e w' => e = .returned (.bool (coversB G ((a : Int), last))) ∧ Below W.heap.size W w') := fun W hW => U64.covers_any (x := ((a : Int), last)) (HV.out.below hW (Nat.le_refl _)) HC.out (by have := HL.out; omega)
    obtain ⟨cb, hcb⟩ : ∃ cb, cb = coversB G ((a : Int), last) := ⟨_, rfl⟩
    rw [← hcb] at HCov
    have HCb : Hid (cb = coversB G ((a : Int), last)) := hcb
    clear hadd hcb c5
    rcases hok with ⟨rfl, hlast⟩ | ⟨rfl, hlast, _⟩
    · clear hlast
      simp only [if_true] at HA
      cases cb with
      | true =>
        go_enter Tryz.func88, Tryz.ntmps88
        go_wp2_with (first | (go_at_call 32; refine (HA.out _).mono ?_; rintro e w' ⟨rfl, hw'⟩; have hw' := hw'.symm; subst hw'))
        obtain ⟨W1, hW1, HB1, c5, a0, a1, hz1⟩ := HW.out
        rw [hW1]
        clear hW1
        have HB1' : Hid (Below w.heap.size w W1) := HB1
        clear HB1
        go_region_held3 (fun w' => w'.cell? ⟨m, 5, none⟩ = some vg ∧ w'.cell? ⟨w.heap.size, 0, none⟩ = some (.int .u64 (a : Int)) ∧ w'.cell? ⟨w.heap.size, 1, none⟩ = some (.int .u64 last)) (go_keep) (first | (go_at_call 104; refine (HCov.out _ HB1'.out.drew).mono ?_; rintro e w2 ⟨rfl, hb2⟩; have HB2 : Hid (Below w.heap.size w w2) := HB1'.out.drew.trans (hb2.mono HB1'.out.size); obtain ⟨b5, b0, b1⟩ : w2.cell? ⟨m, 5, none⟩ = some vg ∧ w2.cell? ⟨w.heap.size, 0, none⟩ = some (.int .u64 (a : Int)) ∧ w2.cell? ⟨w.heap.size, 1, none⟩ = some (.int .u64 last) := cells3 hb2 c5 a0 a1; clear hb2))
        go_wp2_with fail
        go_ret2
        exact ⟨0, false, rfl, HNo.out HCb.out.symm, HB2.out⟩
      | false =>
        go_enter Tryz.func88, Tryz.ntmps88
        go_wp2_with (first | (go_at_call 32; refine (HA.out _).mono ?_; rintro e w' ⟨rfl, hw'⟩; have hw' := hw'.symm; subst hw'))
        obtain ⟨W1, hW1, HB1, c5, a0, a1, hz1⟩ := HW.out
        rw [hW1]
        clear hW1
        have HB1' : Hid (Below w.heap.size w W1) := HB1
        clear HB1
        go_region_held3 (fun w' => w'.cell? ⟨m, 5, none⟩ = some vg ∧ w'.cell? ⟨w.heap.size, 0, none⟩ = some (.int .u64 (a : Int)) ∧ w'.cell? ⟨w.heap.size, 1, none⟩ = some (.int .u64 last)) (go_keep) (first | (go_at_call 104; refine (HCov.out _ HB1'.out.drew).mono ?_; rintro e w2 ⟨rfl, hb2⟩; have HB2 : Hid (Below w.heap.size w w2) := HB1'.out.drew.trans (hb2.mono HB1'.out.size); obtain ⟨b5, b0, b1⟩ : w2.cell? ⟨m, 5, none⟩ = some vg ∧ w2.cell? ⟨w.heap.size, 0, none⟩ = some (.int .u64 (a : Int)) ∧ w2.cell? ⟨w.heap.size, 1, none⟩ = some (.int .u64 last) := cells3 hb2 c5 a0 a1; clear hb2))
        clear c5 a0 a1
        have HNx2 := HNx.out HCb.out.symm
        have HNx3 : Hid (∀ w4 a3 n3 c3, (∃ ts us, U64.SV w4 (.slice a3 n3 c3) us ∧ OfR 18446744073709551615 [((a : Int), last)] ts ∧ Made 18446744073709551615 (fun a b => a && !b) ts G us) → Calls Tryz.prog 91 #[.agg #[.slice a3 n3 c3], .int .u64 (a : Int)] w4 fun e w5 => ∃ x b, e = .returned (.tuple #[.int .u64 x, .bool b]) ∧ Below w4.heap.size w4 w5 ∧ Hid (OffR (rs ++ ds) a n x b)) := HNx2
        clear HNx2
        have HOf2 : Hid (Calls Tryz.prog 40 #[.slice (some ⟨w2.heap.size, 0, none⟩) 1 1] (w2.drew.alloc (Obj.cells #[.int .u64 (a : Int), .int .u64 last] 132)) fun e w3 => ∃ a2 n2 c2, e = .returned (.agg #[.slice a2 n2 c2]) ∧ (w3.cell? ⟨m, 5, none⟩ = some vg ∧ w3.cell? ⟨w.heap.size, 0, none⟩ = some (.int .u64 (a : Int)) ∧ w3.cell? ⟨w.heap.size, 1, none⟩ = some (.int .u64 last)) ∧ Hid (Below w.heap.size w w3) ∧ Hid (∃ ts, U64.SV w3 (.slice a2 n2 c2) ts ∧ OfR 18446744073709551615 [((a : Int), last)] ts)) := by
          refine (HOf.out _ _ (U64.new2 (W := w2.drew) rfl _ _ _).1 (U64.new2 (W := w2.drew) rfl _ _ _).2).mono ?_
          rintro e w3 ⟨a2, n2, c2, rfl, hb3, h3⟩
          have hba : Below w2.drew.heap.size w2.drew w3 := ((Below.refl _ _).alloc (Nat.le_refl _) _).trans (hb3.mono (by simp))
          exact ⟨a2, n2, c2, rfl, cells3 hba b5 b0 b1, HB2.out.drew.trans (hba.mono HB2.out.size), h3⟩
        go_wp2_with fail
        go_region_held3 (fun w' => w'.cell? ⟨m, 5, none⟩ = some vg ∧ w'.cell? ⟨w.heap.size, 0, none⟩ = some (.int .u64 (a : Int)) ∧ w'.cell? ⟨w.heap.size, 1, none⟩ = some (.int .u64 last)) (go_keep) (first | (go_at_call 40; refine HOf2.out.mono ?_; rintro e w3 ⟨a2, n2, c2, rfl, ⟨d5, d0, d1⟩, HB3, HT3⟩) | (go_at_call 105; refine (HLs.out _ _ _ _ HB3.out HT3.out).mono ?_; rintro e w4 ⟨a3, n3, c3, rfl, hb4, HT4⟩; have HB4 : Hid (Below w.heap.size w w4) := HB3.out.trans (hb4.mono HB3.out.size); obtain ⟨f5, f0, f1⟩ := cells3b hb4 d5 d0 d1; clear hb4) | (go_at_call 91; refine (HNx3.out _ _ _ _ HT4.out).mono ?_; rintro e w5 ⟨x, b, rfl, hb5, HO5⟩; have HB5 : Hid (Below w.heap.size w w5) := HB4.out.trans (hb5.mono HB4.out.size); obtain ⟨e5, e0, e1⟩ := cells3b hb5 f5 f0 f1; clear hb5))
        go_wp2_with fail
        go_ret2
        exact ⟨x, b, rfl, HO5.out, HB5.out⟩
    · subst hlast
      simp only [Bool.false_eq_true, if_false] at HA
      cases cb with
      | true =>
        go_enter Tryz.func88, Tryz.ntmps88
        go_wp2_with (first | (go_at_call 32; refine (HA.out _).mono ?_; rintro e w' ⟨rfl, hw'⟩; have hw' := hw'.symm; subst hw'))
        obtain ⟨W1, hW1, HB1, c5, a0, a1, hz1⟩ := HW.out
        rw [hW1]
        clear hW1
        have HB1' : Hid (Below w.heap.size w W1) := HB1
        clear HB1
        go_region_held3 (fun w' => w'.cell? ⟨m, 5, none⟩ = some vg ∧ w'.cell? ⟨w.heap.size, 0, none⟩ = some (.int .u64 (a : Int)) ∧ w'.cell? ⟨w.heap.size, 1, none⟩ = some (.int .u64 18446744073709551615)) (go_keep) (first | (go_at_call 104; refine (HCov.out _ HB1'.out.drew).mono ?_; rintro e w2 ⟨rfl, hb2⟩; have HB2 : Hid (Below w.heap.size w w2) := HB1'.out.drew.trans (hb2.mono HB1'.out.size); obtain ⟨b5, b0, b1⟩ : w2.cell? ⟨m, 5, none⟩ = some vg ∧ w2.cell? ⟨w.heap.size, 0, none⟩ = some (.int .u64 (a : Int)) ∧ w2.cell? ⟨w.heap.size, 1, none⟩ = some (.int .u64 18446744073709551615) := cells3 hb2 c5 a0 a1; clear hb2))
        go_wp2_with fail
        go_ret2
        exact ⟨0, false, rfl, HNo.out HCb.out.symm, HB2.out⟩
      | false =>
        go_enter Tryz.func88, Tryz.ntmps88
        go_wp2_with (first | (go_at_call 32; refine (HA.out _).mono ?_; rintro e w' ⟨rfl, hw'⟩; have hw' := hw'.symm; subst hw'))
        obtain ⟨W1, hW1, HB1, c5, a0, a1, hz1⟩ := HW.out
        rw [hW1]
        clear hW1
        have HB1' : Hid (Below w.heap.size w W1) := HB1
        clear HB1
        go_region_held3 (fun w' => w'.cell? ⟨m, 5, none⟩ = some vg ∧ w'.cell? ⟨w.heap.size, 0, none⟩ = some (.int .u64 (a : Int)) ∧ w'.cell? ⟨w.heap.size, 1, none⟩ = some (.int .u64 18446744073709551615)) (go_keep) (first | (go_at_call 104; refine (HCov.out _ HB1'.out.drew).mono ?_; rintro e w2 ⟨rfl, hb2⟩; have HB2 : Hid (Below w.heap.size w w2) := HB1'.out.drew.trans (hb2.mono HB1'.out.size); obtain ⟨b5, b0, b1⟩ : w2.cell? ⟨m, 5, none⟩ = some vg ∧ w2.cell? ⟨w.heap.size, 0, none⟩ = some (.int .u64 (a : Int)) ∧ w2.cell? ⟨w.heap.size, 1, none⟩ = some (.int .u64 18446744073709551615) := cells3 hb2 c5 a0 a1; clear hb2))
        clear c5 a0 a1
        have HNx2 := HNx.out HCb.out.symm
        have HNx3 : Hid (∀ w4 a3 n3 c3, (∃ ts us, U64.SV w4 (.slice a3 n3 c3) us ∧ OfR 18446744073709551615 [((a : Int), 18446744073709551615)] ts ∧ Made 18446744073709551615 (fun a b => a && !b) ts G us) → Calls Tryz.prog 91 #[.agg #[.slice a3 n3 c3], .int .u64 (a : Int)] w4 fun e w5 => ∃ x b, e = .returned (.tuple #[.int .u64 x, .bool b]) ∧ Below w4.heap.size w4 w5 ∧ Hid (OffR (rs ++ ds) a n x b)) := HNx2
        clear HNx2
        have HOf2 : Hid (Calls Tryz.prog 40 #[.slice (some ⟨w2.heap.size, 0, none⟩) 1 1] (w2.drew.alloc (Obj.cells #[.int .u64 (a : Int), .int .u64 18446744073709551615] 132)) fun e w3 => ∃ a2 n2 c2, e = .returned (.agg #[.slice a2 n2 c2]) ∧ (w3.cell? ⟨m, 5, none⟩ = some vg ∧ w3.cell? ⟨w.heap.size, 0, none⟩ = some (.int .u64 (a : Int)) ∧ w3.cell? ⟨w.heap.size, 1, none⟩ = some (.int .u64 18446744073709551615)) ∧ Hid (Below w.heap.size w w3) ∧ Hid (∃ ts, U64.SV w3 (.slice a2 n2 c2) ts ∧ OfR 18446744073709551615 [((a : Int), 18446744073709551615)] ts)) := by
          refine (HOf.out _ _ (U64.new2 (W := w2.drew) rfl _ _ _).1 (U64.new2 (W := w2.drew) rfl _ _ _).2).mono ?_
          rintro e w3 ⟨a2, n2, c2, rfl, hb3, h3⟩
          have hba : Below w2.drew.heap.size w2.drew w3 := ((Below.refl _ _).alloc (Nat.le_refl _) _).trans (hb3.mono (by simp))
          exact ⟨a2, n2, c2, rfl, cells3 hba b5 b0 b1, HB2.out.drew.trans (hba.mono HB2.out.size), h3⟩
        go_wp2_with fail
        go_region_held3 (fun w' => w'.cell? ⟨m, 5, none⟩ = some vg ∧ w'.cell? ⟨w.heap.size, 0, none⟩ = some (.int .u64 (a : Int)) ∧ w'.cell? ⟨w.heap.size, 1, none⟩ = some (.int .u64 18446744073709551615)) (go_keep) (first | (go_at_call 40; refine HOf2.out.mono ?_; rintro e w3 ⟨a2, n2, c2, rfl, ⟨d5, d0, d1⟩, HB3, HT3⟩) | (go_at_call 105; refine (HLs.out _ _ _ _ HB3.out HT3.out).mono ?_; rintro e w4 ⟨a3, n3, c3, rfl, hb4, HT4⟩; have HB4 : Hid (Below w.heap.size w w4) := HB3.out.trans (hb4.mono HB3.out.size); obtain ⟨f5, f0, f1⟩ := cells3b hb4 d5 d0 d1; clear hb4) | (go_at_call 91; refine (HNx3.out _ _ _ _ HT4.out).mono ?_; rintro e w5 ⟨x, b, rfl, hb5, HO5⟩; have HB5 : Hid (Below w.heap.size w w5) := HB4.out.trans (hb5.mono HB4.out.size); obtain ⟨e5, e0, e1⟩ := cells3b hb5 f5 f0 f1; clear hb5))
        go_wp2_with fail
        go_ret2
        exact ⟨x, b, rfl, HO5.out, HB5.out⟩
end Go.Proofs.YtlplbbnicfeoaaaGreat
