import Derived.Test.YtlplbbnicfeoaaaGreatPk23
import Derived.Test.YtlplbbnicfeoaaaGreatPk24
import Derived.Laws.StructEq
import Derived.Test.YtlplbbnicfeoaaaGreatPk20
import Derived.Test.YtlplbbnicfeoaaaGreatPk19
/- from: the spans that don't end below a point. Own work. -/
namespace Go.Proofs.YtlplbbnicfeoaaaGreat.U64
open Go.RowKit Go.Shelf Go.Proofs.YtlplbbnicfeoaaaGreat.Sp

set_option maxHeartbeats 1000000 in
theorem from1_any {W : World} {v : Value} {xs : List Sp} {p : Int} {bs bp i : Nat} (hs : W.cell? ⟨bs, 0, none⟩ = some v) (hp : W.cell? ⟨bp, 0, none⟩ = some (.int .u64 p)) (hv : SV W v xs) (hi : i < xs.length) :
    Calls Tryz.prog 116 #[.int .i64 (i : Int), .pointer (some ⟨bs, 0, none⟩), .pointer (some ⟨bp, 0, none⟩)] W fun e w' => e = .returned (.bool (decide (p ≤ xs[i].2))) ∧ ∃ q, w' = W.drewN q := by
  obtain ⟨ao, cap, rfl, h1, h2, h3, h4, h5⟩ := hv
  obtain ⟨g, off, rfl, c0, c1⟩ := h5 i hi
  unfold maxLen at h2
  clear h5 h4 h3 c0
  obtain ⟨z, hz⟩ : ∃ z, z = xs[i].2 := ⟨_, rfl⟩
  rw [← hz] at c1 ⊢
  clear hz
  go_enter Tryz.func116, Tryz.ntmps116
  go_wp2_with fail
  go_quiet (fail)
  go_wp2_with fail
  go_ret
  exact ⟨rfl, _, rfl⟩
theorem SV.drop {w : World} {g off cap n : Nat} {xs : List Sp} (h : SV w (.slice (some ⟨g, off, none⟩) n cap) xs) {k : Nat} (hk : k ≤ xs.length) : SV w (.slice (some ⟨g, off + k * 2, none⟩) (n - k) (cap - k)) (xs.drop k) := by
  obtain ⟨ao, cap, e, h1, h2, h3, h4, h5⟩ := h
  cases e
  obtain ⟨g', off', e', hg⟩ := h4 _ rfl
  cases e'
  refine ⟨_, _, by rw [List.length_drop], by simp; omega, by omega, fun e => (by cases e), fun a e => (by cases e; exact ⟨g, _, rfl, hg⟩), fun j hj => ?_⟩
  obtain ⟨g', off', e', d0, d1⟩ := h5 (k + j) (by simp at hj; omega)
  cases e'
  refine ⟨g, off + k * 2, rfl, ?_, ?_⟩
  · rw [show off + k * 2 + j * 2 = off + (k + j) * 2 by omega, List.getElem_drop]; exact d0
  · rw [show off + k * 2 + j * 2 + 1 = off + (k + j) * 2 + 1 by omega, List.getElem_drop]; exact d1
theorem SV.dropAll {w : World} {g off n : Nat} {xs : List Sp} {k : Nat} (h : SV w (.slice (some ⟨g, off, none⟩) n k) xs) : SV w (.slice (some ⟨g, off, none⟩) 0 0) (xs.drop k) := by
  obtain ⟨ao, cap, e, h1, h2, h3, h4, h5⟩ := h
  cases e
  rw [List.drop_eq_nil_of_le (by omega)]
  exact ⟨_, _, rfl, Nat.le_refl _, Nat.zero_le _, fun e => (by cases e), h4, fun j hj => by simp at hj⟩
set_option maxHeartbeats 1000000 in
theorem from_any {w : World} {v : Value} {xs : List Sp} {p : Int} (hv : SV w v xs) (hc : Canon 18446744073709551615 xs) (hl : xs.length ≤ 1152921504606846976) :
    Calls Tryz.prog 106 #[.agg #[v], .int .u64 p] w fun e w' => ∃ v', e = .returned v' ∧ (∀ W, SV W v xs → SV W v' (restAt p xs)) ∧ Below w.heap.size w w' := by
  obtain ⟨ao, cap, e, hcap, hmax, hnil, hblk, hcells⟩ := hv
  have hv : SV w v xs := ⟨ao, cap, e, hcap, hmax, hnil, hblk, hcells⟩
  have HS : Hid (Calls Tryz.prog 115 #[.int .i64 (xs.length : Int), .func (.func 116) #[] #[.pointer (some ⟨w.heap.size, 0, none⟩), .pointer (some ⟨w.heap.size + 1, 0, none⟩)]] ((w.alloc (Obj.cells #[v] 90)).alloc (Obj.cells #[.int .u64 p] 23))
      fun e w' => e = .returned (.int .i64 ((ends p xs : Nat) : Int)) ∧ Below (w.heap.size + 1 + 1) ((w.alloc (Obj.cells #[v] 90)).alloc (Obj.cells #[.int .u64 p] 23)) w') := by
    obtain ⟨W2, hW2⟩ : ∃ W2, (w.alloc (Obj.cells #[v] 90)).alloc (Obj.cells #[.int .u64 p] 23) = W2 := ⟨_, rfl⟩
    have hz : W2.heap.size = w.heap.size + 1 + 1 := by rw [← hW2]; simp
    have k0 : W2.cell? ⟨w.heap.size, 0, none⟩ = some v := by
      rw [← hW2]
      exact cell_alloc' _ (by rw [cell_of_row _ _ 0 _ _ _ (heap_alloc_new w _)]; rfl)
    have k1 : W2.cell? ⟨w.heap.size + 1, 0, none⟩ = some (.int .u64 p) := by
      have := heap_alloc_new (w.alloc (Obj.cells #[v] 90)) (Obj.cells #[.int .u64 p] 23)
      rw [show (w.alloc (Obj.cells #[v] 90)).heap.size = w.heap.size + 1 by simp] at this
      rw [← hW2, cell_of_row _ _ 0 _ _ _ this]; rfl
    have hv2 : SV W2 v xs := by rw [← hW2]; exact (hv.alloc _).alloc _
    rw [hW2]
    have hbg : ∀ m os, Below W2.heap.size W2 (Go.Sort.grow (W2.drewN m) os) := fun m os => ⟨rfl, rfl, rfl, by simp, fun k hk => by rw [Go.Sort.heap_grow_old _ _ (by simpa using hk)]; rfl⟩
    have := Any.sort_Search search 116 #[.pointer (some ⟨w.heap.size, 0, none⟩), .pointer (some ⟨w.heap.size + 1, 0, none⟩)] xs.length (fun i => decide (p ≤ (xs[i]!).2)) W2 (enters_of Tryz.func116 (by kernel_rfl) rfl) (by omega) (fun m os i hi => by
      have hc := from1_any (W := Go.Sort.grow (W2.drewN m) os) (i := i) ((hbg m os).cell (p := ⟨w.heap.size, 0, none⟩) (by show w.heap.size < _; omega) ▸ k0) ((hbg m os).cell (p := ⟨w.heap.size + 1, 0, none⟩) (by show w.heap.size + 1 < _; omega) ▸ k1) (hv2.below (hbg m os) (Nat.le_refl _)) hi
      refine hc.mono ?_
      rintro e w' ⟨rfl, q, rfl⟩
      refine ⟨by rw [getElem!_pos xs i hi], q, #[], by simp⟩) (hmono hc)
    refine Calls.mono this ?_
    rintro e w' ⟨rfl, q, os, rfl⟩
    refine ⟨by rw [ends_range], ?_⟩
    rw [← hz]
    exact hbg q os
  have hle := ends_le p xs
  obtain ⟨k, hk⟩ : ∃ k, k = ends p xs := ⟨_, rfl⟩
  unfold restAt
  rw [← hk] at HS hle ⊢
  subst e
  clear hcells hc hv hk
  unfold maxLen at hmax
  have HB0 : Hid (∀ a b, Below w.heap.size w ((w.alloc a).alloc b)) := fun a b => ((Below.refl _ _).alloc (Nat.le_refl _) _).alloc (by simp) _
  cases ao with
  | none =>
    obtain ⟨rfl, rfl⟩ := hnil rfl
    obtain rfl : k = 0 := by simpa using hle
    clear hnil hblk
    go_enter Tryz.func106, Tryz.ntmps106
    go_wp2_with fail
    refine HS.out.mono ?_
    rintro e w2 ⟨rfl, hb2⟩
    have c0 : w2.cell? ⟨w.heap.size, 0, none⟩ = some (.slice none 0 0) := by
      rw [hb2.cell (p := ⟨w.heap.size, 0, none⟩) (by show w.heap.size < _; omega)]
      exact cell_alloc' _ (by rw [cell_of_row _ _ 0 _ _ _ (heap_alloc_new w _)]; rfl)
    have HB2 : Hid (Below w.heap.size w w2) := (HB0.out _ _).trans (hb2.mono (by omega))
    clear hb2
    go_wp2_with fail
    go_ret
    exact ⟨_, rfl, fun W h => h, HB2.out⟩
  | some a =>
    obtain ⟨g, off, rfl, hg⟩ := hblk _ rfl
    clear hnil hblk hg
    obtain ⟨n, hn⟩ : ∃ n, n = xs.length := ⟨_, rfl⟩
    have HN : Hid (k ≤ xs.length) := hle
    rw [← hn] at HS hl hcap hle ⊢
    clear hn
    by_cases hkc : k = cap
    · subst hkc
      go_enter Tryz.func106, Tryz.ntmps106
      go_wp2_with fail
      refine HS.out.mono ?_
      rintro e w2 ⟨rfl, hb2⟩
      have c0 : w2.cell? ⟨w.heap.size, 0, none⟩ = some (.slice (some ⟨g, off, none⟩) n k) := by
        rw [hb2.cell (p := ⟨w.heap.size, 0, none⟩) (by show w.heap.size < _; omega)]
        exact cell_alloc' _ (by rw [cell_of_row _ _ 0 _ _ _ (heap_alloc_new w _)]; rfl)
      have HB2 : Hid (Below w.heap.size w w2) := (HB0.out _ _).trans (hb2.mono (by omega))
      clear hb2
      go_wp2_with fail
      go_ret
      exact ⟨_, rfl, fun W h => h.dropAll, HB2.out⟩
    · go_enter Tryz.func106, Tryz.ntmps106
      go_wp2_with fail
      refine HS.out.mono ?_
      rintro e w2 ⟨rfl, hb2⟩
      have c0 : w2.cell? ⟨w.heap.size, 0, none⟩ = some (.slice (some ⟨g, off, none⟩) n cap) := by
        rw [hb2.cell (p := ⟨w.heap.size, 0, none⟩) (by show w.heap.size < _; omega)]
        exact cell_alloc' _ (by rw [cell_of_row _ _ 0 _ _ _ (heap_alloc_new w _)]; rfl)
      have HB2 : Hid (Below w.heap.size w w2) := (HB0.out _ _).trans (hb2.mono (by omega))
      clear hb2
      go_wp2_with fail
      go_ret
      exact ⟨_, rfl, fun W h => h.drop HN.out, HB2.out⟩
end Go.Proofs.YtlplbbnicfeoaaaGreat.U64
/- Covers, Has, Next, Touches, Same. Own work. -/
namespace Go.Proofs.YtlplbbnicfeoaaaGreat.U64
open Go.RowKit Go.Shelf Go.Proofs.YtlplbbnicfeoaaaGreat.Sp

set_option maxHeartbeats 2000000 in
theorem covers_any {w : World} {v : Value} {xs : List Sp} {x : Sp} (hv : SV w v xs) (hc : Canon 18446744073709551615 xs) (hl : xs.length ≤ 1152921504606846976) :
    Calls Tryz.prog 104 #[.agg #[v], .agg #[.int .u64 x.1, .int .u64 x.2]] w fun e w' => e = .returned (.bool (coversB xs x)) ∧ Below w.heap.size w w' := by
  have HB0 : Hid (∀ a b c, Below w.heap.size w (((w.alloc a).alloc b).alloc c)) := fun a b c => (((Below.refl _ _).alloc (Nat.le_refl _) _).alloc (by simp) _).alloc (by simp; omega) _
  have HV : Hid (SV w v xs) := hv
  have HC : Hid (Canon 18446744073709551615 xs) := hc
  have d0 := fun X : Obj => cell_alloc' X (cell_alloc' (w := w.alloc (Obj.cells #[v] 90)) (Obj.cells #[.int .u64 x.1, .int .u64 x.2] 132) (show (w.alloc (Obj.cells #[v] 90)).cell? ⟨w.heap.size, 0, none⟩ = some v by rw [cell_of_row _ _ 0 _ _ _ (heap_alloc_new w _)]; rfl))
  have d1 := fun X : Obj => cell_alloc' X (new2 (W := w.alloc (Obj.cells #[v] 90)) (n := w.heap.size + 1) (by simp) (.int .u64 x.1) (.int .u64 x.2) 132).1
  have d2 := fun X : Obj => cell_alloc' X (new2 (W := w.alloc (Obj.cells #[v] 90)) (n := w.heap.size + 1) (by simp) (.int .u64 x.1) (.int .u64 x.2) 132).2
  clear hv hc
  by_cases he : x.2 < x.1
  · have hs : coversB xs x = true := by simp [coversB, he]
    rw [hs]
    have hd : decide (x.2 < x.1) = true := decide_eq_true he
    clear hs
    go_enter Tryz.func104, Tryz.ntmps104
    go_wp2_with fail
    refine (empty_any x _).mono ?_
    rintro e w' ⟨rfl, X, rfl⟩
    rw [hd]
    go_wp2_with fail
    go_ret
    exact ⟨rfl, HB0.out _ _ _⟩
  · have hd : decide (x.2 < x.1) = false := decide_eq_false he
    obtain ⟨b, hb⟩ : ∃ b, b = coversB xs x := ⟨_, rfl⟩
    rw [← hb]
    have HR : Hid (b = coversB xs x) := hb
    clear hb
    go_enter Tryz.func104, Tryz.ntmps104
    go_wp2_with fail
    refine (empty_any x _).mono ?_
    rintro e w' ⟨rfl, X, rfl⟩
    rw [hd]
    go_wp2_with fail
    refine (from_any (p := x.1) (HV.out.below (HB0.out _ _ _) (Nat.le_refl _)) HC.out hl).mono ?_
    rintro e w2 ⟨v2, rfl, h2, hb2⟩
    have h2' := h2 _ (HV.out.below ((HB0.out (Obj.cells #[v] 90) (Obj.cells #[.int .u64 x.1, .int .u64 x.2] 132) X).trans (hb2.mono (by simp; omega))) (Nat.le_refl _))
    have HB2 : Hid (Below w.heap.size w w2) := (HB0.out (Obj.cells #[v] 90) (Obj.cells #[.int .u64 x.1, .int .u64 x.2] 132) X).trans (hb2.mono (by simp; omega))
    have e1 : w2.cell? ⟨w.heap.size + 1, 0, none⟩ = some (.int .u64 x.1) := (hb2.cell (p := ⟨w.heap.size + 1, 0, none⟩) (by simp)).trans (d1 X)
    have e2 : w2.cell? ⟨w.heap.size + 1, 1, none⟩ = some (.int .u64 x.2) := (hb2.cell (p := ⟨w.heap.size + 1, 1, none⟩) (by simp)).trans (d2 X)
    clear h2 hb2 d0 d1 d2
    obtain ⟨ao, cap, rfl, _, _, _, _, h5⟩ := h2'
    cases hr : restAt x.1 xs with
    | nil =>
      rw [hr] at h5
      clear h5
      simp only [List.length_nil]
      have HE : Hid (b = false) := show b = false by rw [HR.out, coversB, if_neg (show ¬ x.2 < x.1 by omega), hr]
      clear hr
      go_wp2_with fail
      go_quiet (fail)
      go_wp2_with fail
      go_ret
      exact ⟨by rw [HE.out]; rfl, below_drewN' HB2.out _⟩
    | cons y r =>
      rw [hr] at h5
      obtain ⟨g, off, rfl, c0, c1⟩ := h5 0 (by simp)
      simp only [List.getElem_cons_zero, Nat.zero_mul, Nat.add_zero] at c0 c1
      simp only [List.length_cons]
      have HE : Hid (b = (decide (y.1 ≤ x.1) && decide (x.2 ≤ y.2))) := show b = _ by rw [HR.out, coversB, if_neg (show ¬ x.2 < x.1 by omega), hr]
      clear h5 hr
      by_cases h1 : y.1 ≤ x.1
      · have hd1 : decide (y.1 ≤ x.1) = true := decide_eq_true h1
        go_wp2_with fail
        go_quiet (fail)
        go_wp2_with fail
        go_ret
        exact ⟨by rw [HE.out, hd1]; rfl, below_drewN' HB2.out _⟩
      · have hd1 : decide (y.1 ≤ x.1) = false := decide_eq_false h1
        go_wp2_with fail
        go_quiet (fail)
        go_wp2_with fail
        go_ret
        exact ⟨by rw [HE.out, hd1]; rfl, below_drewN' HB2.out _⟩

set_option maxHeartbeats 1000000 in
theorem next_any {w : World} {v : Value} {xs : List Sp} {p : Int} (hv : SV w v xs) (hc : Canon 18446744073709551615 xs) (hl : xs.length ≤ 1152921504606846976) :
    Calls Tryz.prog 91 #[.agg #[v], .int .u64 p] w fun e w' => e = .returned (.tuple #[.int .u64 (nextB p xs).1, .bool (nextB p xs).2]) ∧ Below w.heap.size w w' := by
  have HV : Hid (∀ X, SV (w.alloc X) v xs) := fun X => hv.alloc X
  have HC : Hid (∀ X, Calls Tryz.prog 106 #[.agg #[v], .int .u64 p] (w.alloc X) fun e w' => ∃ v', e = .returned v' ∧ (∀ W, SV W v xs → SV W v' (restAt p xs)) ∧ Below (w.alloc X).heap.size (w.alloc X) w') := fun X => from_any (hv.alloc X) hc hl
  obtain ⟨n, b, hnb⟩ : ∃ n b, nextB p xs = (n, b) := ⟨_, _, rfl⟩
  rw [hnb]
  have HN : Hid (nextB p xs = (n, b)) := hnb
  clear hv hc hl hnb
  go_enter Tryz.func91, Tryz.ntmps91
  go_wp2_with fail
  refine (HC.out _).mono ?_
  rintro e w2 ⟨v2, rfl, h2, hb2⟩
  have h2' := h2 _ ((HV.out _).below hb2 (Nat.le_refl _))
  have HB2 : Hid (Below w.heap.size w w2) := ((Below.refl _ _).alloc (Nat.le_refl _) _).trans (hb2.mono (by simp))
  clear hb2 HC h2
  obtain ⟨ao, cap, rfl, _, _, _, _, h5⟩ := h2'
  have hnb := HN.out
  unfold nextB at hnb
  cases hr : restAt p xs with
  | nil =>
    rw [hr] at h5 hnb
    cases hnb
    clear h5 hr
    simp only [List.length_nil]
    go_wp2_with fail
    go_ret2
    exact ⟨rfl, HB2.out⟩
  | cons y r =>
    rw [hr] at h5 hnb
    obtain ⟨g, off, rfl, c0, c1⟩ := h5 0 (by simp)
    simp only [List.getElem_cons_zero, Nat.zero_mul, Nat.add_zero] at c0 c1
    simp only [List.length_cons]
    have hn : n = max p y.1 ∧ b = true := by cases hnb; exact ⟨rfl, rfl⟩
    clear h5 hr hnb c1
    obtain ⟨hn, rfl⟩ := hn
    have HMx : Hid (n = max p y.1) := hn
    clear hn
    go_wp2_with fail
    all_goals
      go_ret2
      exact ⟨by have := HMx.out; simp; omega, HB2.out⟩
set_option maxHeartbeats 1000000 in
theorem touches_any {w : World} {v : Value} {xs : List Sp} {x : Sp} (hv : SV w v xs) (hc : Canon 18446744073709551615 xs) (hl : xs.length ≤ 1152921504606846976) :
    Calls Tryz.prog 83 #[.agg #[v], .agg #[.int .u64 x.1, .int .u64 x.2]] w fun e w' => e = .returned (.bool (touchesB xs x)) ∧ Below w.heap.size w w' := by
  have HB0 : Hid (∀ a b, Below w.heap.size w ((w.alloc a).alloc b)) := fun a b => ((Below.refl _ _).alloc (Nat.le_refl _) _).alloc (by simp) _
  have HC : Hid (∀ X Y, Calls Tryz.prog 91 #[.agg #[v], .int .u64 x.1] ((w.alloc X).alloc Y) fun e w' => e = .returned (.tuple #[.int .u64 (nextB x.1 xs).1, .bool (nextB x.1 xs).2]) ∧ Below ((w.alloc X).alloc Y).heap.size ((w.alloc X).alloc Y) w') := fun X Y => next_any ((hv.alloc X).alloc Y) hc hl
  have d2 := (new2 (W := w.alloc (Obj.cells #[v] 90)) (n := w.heap.size + 1) (by simp) (.int .u64 x.1) (.int .u64 x.2) 132).2
  obtain ⟨b, hb⟩ : ∃ b, b = touchesB xs x := ⟨_, rfl⟩
  rw [← hb]
  unfold touchesB at hb
  obtain ⟨n, c, hn⟩ : ∃ n c, nextB x.1 xs = (n, c) := ⟨_, _, rfl⟩
  rw [hn] at HC hb
  have HR : Hid (b = (c && decide (n ≤ x.2))) := hb
  clear hv hc hl hn hb
  go_enter Tryz.func83, Tryz.ntmps83
  go_wp2_with fail
  refine (HC.out _ _).mono ?_
  rintro e w2 ⟨rfl, hb2⟩
  have HB2 : Hid (Below w.heap.size w w2) := (HB0.out (Obj.cells #[v] 90) (Obj.cells #[.int .u64 x.1, .int .u64 x.2] 132)).trans (hb2.mono (by simp; omega))
  have e2 : w2.cell? ⟨w.heap.size + 1, 1, none⟩ = some (.int .u64 x.2) := (hb2.cell (p := ⟨w.heap.size + 1, 1, none⟩) (by simp)).trans d2
  clear hb2 HC d2
  cases c with
  | false =>
    go_wp2_with fail
    go_ret
    exact ⟨by rw [HR.out]; rfl, HB2.out⟩
  | true =>
    go_wp2_with fail
    go_ret
    exact ⟨by rw [HR.out]; rfl, HB2.out⟩
end Go.Proofs.YtlplbbnicfeoaaaGreat.U64
/- beyond, Size, Largest. Own work. -/
namespace Go.Proofs.YtlplbbnicfeoaaaGreat.U64
open Go.RowKit Go.Shelf Go.Proofs.YtlplbbnicfeoaaaGreat.Sp

theorem beyond_any {x : Sp} (h : 0 ≤ x.1 ∧ x.1 ≤ x.2 ∧ x.2 ≤ 18446744073709551615) (w : World) : Calls Tryz.prog 70 #[.agg #[.int .u64 x.1, .int .u64 x.2]] w fun e w' => e = .returned (.int .u64 (x.2 - x.1)) ∧ ∃ X, w' = w.alloc X := by
  go_enter Tryz.func70, Tryz.ntmps70
  go_wp2
  go_ret
  exact ⟨rfl, _, rfl⟩
set_option maxHeartbeats 2000000 in
theorem size_any {w : World} {v : Value} {xs : List Sp} (hv : SV w v xs) (hc : Canon 18446744073709551615 xs) :
    Calls Tryz.prog 41 #[.agg #[v]] w fun e w' => e = .returned (.tuple #[.int .u64 (sizeB xs).1, .bool (sizeB xs).2]) ∧ Below w.heap.size w w' := by
  have HV : Hid (∀ X, SV (w.alloc X) v xs) := fun X => hv.alloc X
  have HC : Hid (Canon 18446744073709551615 xs) := hc
  obtain ⟨ao, cap, rfl, h1, h2, h3, h4, h5⟩ := hv
  unfold maxLen at h2
  clear h3 h4 h5 hc
  go_enter Tryz.func41, Tryz.ntmps41
  go_wp2_with fail
  obtain ⟨W0, hW0⟩ : ∃ W0, w.alloc (Obj.cells #[.slice ao xs.length cap] 90) = W0 := ⟨_, rfl⟩
  have HV0 : Hid (SV W0 (.slice ao xs.length cap) xs) := hW0 ▸ HV.out _
  have HB0 : Hid (Below w.heap.size w W0) := hW0 ▸ (Below.refl _ _).alloc (Nat.le_refl _) _
  rw [hW0]
  clear hW0 HV
  go_loopw [4, 5, 11] (fun n b i wr => ∃ k : Nat, k ≤ xs.length ∧ i = .int .i64 (k : Int) ∧ n = .int .u64 (sizeB (xs.take k)).1 ∧ b = .bool (sizeB (xs.take k)).2 ∧ Hid (Below W0.heap.size W0 wr)) (fun _ _ i _ => xs.length - (intOf i).toNat)
  case atStart => exact ⟨0, Nat.zero_le _, rfl, rfl, rfl, Below.refl _ _⟩
  case round =>
    obtain ⟨k, hk, rfl, rfl, rfl, HB⟩ := hrel
    by_cases hlt : k < xs.length
    · obtain ⟨ao', cap', e, _, _, _, _, h5⟩ := HV0.out.below HB.out (Nat.le_refl _)
      cases e
      obtain ⟨g, off, rfl, d0, d1⟩ := h5 k hlt
      clear h5
      have hb := HC.out.1 xs[k] (List.getElem_mem _)
      have ha := tot_ahead HC.out hlt
      have hn := tot_nonneg (canon_take HC.out k)
      have ht := tot_take hlt
      obtain ⟨x, hx⟩ : ∃ x, x = xs[k] := ⟨_, rfl⟩
      rw [← hx] at d0 d1 hb ha ht
      obtain ⟨T, hT⟩ : ∃ T, T = tot (xs.take k) := ⟨_, rfl⟩
      have hs : sizeB (xs.take k) = (T, true) := by simp only [sizeB]; rw [if_pos (by omega), hT]
      have hs2 : sizeB (xs.take (k + 1)) = U64.addB (T + (x.2 - x.1)) 1 := by
        simp only [sizeB, U64.addB, ht, ← hT]
        rw [show T + (x.2 - x.1 + 1) = T + (x.2 - x.1) + 1 by omega]
      rw [← hT] at ha hn
      rw [hs]
      have HS2 : Hid (sizeB (xs.take (k + 1)) = U64.addB (T + (x.2 - x.1)) 1) := hs2
      have HB3 : Hid (∀ X Y, Below W0.heap.size W0 ((wr.alloc X).alloc Y)) := fun X Y => (HB.out.alloc HB.out.size X).alloc (by have := HB.out.size; simp; omega) Y
      have HA : Hid (∀ W, Calls Tryz.prog 32 #[.int .u64 (T + (x.2 - x.1)), .int .u64 1] W fun e w' => e = .returned (.tuple #[.int .u64 (U64.addB (T + (x.2 - x.1)) 1).1, .bool (U64.addB (T + (x.2 - x.1)) 1).2]) ∧ w' = W) := fun W => U64.add_any (by omega) (by omega) W
      clear hx hT hs hs2 ht
      go_wp2_with fail
      refine (beyond_any hb _).mono ?_
      rintro e w' ⟨rfl, X, rfl⟩
      go_wp2_with fail
      refine (HA.out _).mono ?_
      rintro e w' ⟨rfl, rfl⟩
      clear HA
      go_wp2_with fail
      go_roundw
      case rel => exact ⟨k + 1, by omega, by go_num, by rw [HS2.out], by rw [HS2.out], HB3.out _ _⟩
      case measure => simp [intOf]; omega
    · obtain rfl : k = xs.length := by omega
      rw [List.take_length]
      go_wp2_with fail
      go_ret2
      exact ⟨rfl, HB0.out.trans (HB.out.mono HB0.out.size)⟩

end Go.Proofs.YtlplbbnicfeoaaaGreat.U64
