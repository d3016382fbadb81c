/- fit, the one by one: its answer is the least. Own work. -/
import Derived.Test.YtogcpogoamoljaaSpMark
import Derived.Test.YtogcpogoamoljaaSpFitM
namespace Go.Proofs.Ytogcpogoamoljaa
open Go.RowKit Go.Shelf Go.Proofs.Ytogcpogoamoljaa.Sp
/-- no multiple below p serves -/
def NoneTo (xs : List Sp) (size al : Nat) (p : Nat) : Prop := (al : Int) ∣ (p : Int) ∧ ∀ q : Int, 0 ≤ q → q < p → (al : Int) ∣ q → ¬ Runs xs size q
/-- so far all points are there -/
def AllTo (f : Nat → Bool) (p n : Nat) : Prop := ∀ j, j < n → p + j < 256 ∧ f (p + j) = true
theorem noneTo_next {xs : List Sp} {size al p : Nat} (ha : 0 < al) (h : NoneTo xs size al p) (hn : ¬ Runs xs size p) : NoneTo xs size al (p + al) := by
  obtain ⟨c, hc⟩ := h.1
  refine ⟨⟨c + 1, by rw [Int.mul_add]; omega⟩, fun q q0 q1 qd k => ?_⟩
  by_cases e : q < p
  · exact h.2 q q0 e qd k
  · obtain ⟨d, hd⟩ := qd
    have : q = p := by
      by_cases e2 : c < d
      · have : (al : Int) * (c + 1) ≤ al * d := Int.mul_le_mul_of_nonneg_left (by omega) (by omega)
        rw [Int.mul_add] at this
        push_cast at q1
        omega
      · have : (al : Int) * d ≤ al * c := Int.mul_le_mul_of_nonneg_left (by omega) (by omega)
        omega
    exact hn (this ▸ k)
theorem least_found {f : Nat → Bool} {xs : List Sp} {size al p : Nat} (hx : ∀ q : Nat, q < 256 → (f q = true ↔ In q xs)) (h : NoneTo xs size al p) (k : AllTo f p size) : Least xs size al ((p : Int), true) :=
  ⟨fun _ => ⟨by show (0 : Int) ≤ p; omega, h.1, fun q a b => by
    have a' : (p : Int) ≤ q := a
    have b' : q < (p : Int) + size := b
    obtain ⟨k1, k2⟩ := k (q.toNat - p) (by omega)
    have := (hx _ k1).1 k2
    rwa [show ((p + (q.toNat - p) : Nat) : Int) = q by omega] at this, h.2⟩, fun e => by simp at e⟩
theorem least_none {xs : List Sp} {size al p : Nat} (hs : 0 < size) (hx2 : ∀ q : Int, In q xs → 0 ≤ q ∧ q ≤ 255) (h : NoneTo xs size al p) (hp : 256 ≤ p) : Least xs size al ((0 : Int), false) :=
  ⟨fun e => by simp at e, fun _ => ⟨rfl, fun q q0 qd k => by
    by_cases e : q < p
    · exact h.2 q q0 e qd k
    · have := hx2 q (k q (by omega) (by omega))
      omega⟩⟩
theorem not_runs {f : Nat → Bool} {xs : List Sp} {size p n : Nat} (hx : ∀ q : Nat, q < 256 → (f q = true ↔ In q xs)) (hx2 : ∀ q : Int, In q xs → 0 ≤ q ∧ q ≤ 255) (hn : n < size) (h : p + n < 256 → f (p + n) = false) : ¬ Runs xs size p := fun k => by
  have hi := k (p + n) (by omega) (by omega)
  have hb := hx2 _ hi
  have h1 : p + n < 256 := by omega
  have := (hx (p + n) h1).2 (by push_cast; exact hi)
  rw [h h1] at this
  cases this
set_option maxHeartbeats 1000000 in
theorem fit1_any {f : Nat → Bool} {size al : Nat} {xs : List Sp} (hs : 0 < size) (hs2 : size ≤ 255) (ha : 0 < al) (ha2 : al ≤ 255) (hx : ∀ q : Nat, q < 256 → (f q = true ↔ In q xs)) (hx2 : ∀ q : Int, In q xs → 0 ≤ q ∧ q ≤ 255) (w : World) :
    Calls Try.prog 17 #[.agg (ptsV f), .int .i64 (size : Int), .int .i64 (al : Int)] w fun e w' => (∃ r : Int × Bool, e = .returned (.tuple #[.int .i64 r.1, .bool r.2]) ∧ Least xs size al r) ∧ Below w.heap.size w w' := by
  have z1 : ((size : Int) == 0) = false := by simp; omega
  have z2 : ((al : Int) == 0) = false := by simp; omega
  have HX : Hid (∀ q : Nat, q < 256 → (f q = true ↔ In q xs)) := hx
  have HX2 : Hid (∀ q : Int, In q xs → 0 ≤ q ∧ q ≤ 255) := hx2
  clear hx hx2
  go_enter Try.func17, Try.ntmps17
  go_wp2_with fail
  obtain ⟨W0, hW0⟩ : ∃ W0, (w.alloc (Obj.cells (ptsV f) 33)) = W0 := ⟨_, rfl⟩
  have HP0 : Hid (PtsAt W0 w.heap.size f) := hW0 ▸ (PtsAt.new w f)
  have HB0 : Hid (Below w.heap.size w W0) := hW0 ▸ ((Below.refl _ _).alloc (Nat.le_refl _) _)
  rw [hW0]
  clear hW0
  go_loopw [8] (fun i wr => ∃ p : Nat, p ≤ 255 + al ∧ i = .int .i64 (p : Int) ∧ Hid (NoneTo xs size al p) ∧ wr = W0) (fun i _ => 256 + al - (intOf i).toNat)
  case atStart => exact ⟨0, by omega, rfl, ⟨⟨0, by simp⟩, fun q a b => by omega⟩, rfl⟩
  case round =>
    obtain ⟨p, hp, rfl, HN, rfl⟩ := hrel
    by_cases h256 : p < 256
    · have hd : decide ((p : Int) < 256) = true := decide_eq_true (by omega)
      go_wp2_with fail
      go_loopw [9] (fun j wx => ∃ n : Nat, n ≤ size ∧ j = .int .i64 (n : Int) ∧ Hid (AllTo f p n) ∧ wx = wr) (fun j _ => size - (intOf j).toNat)
      case atStart => exact ⟨0, by omega, rfl, fun j hj => by omega, rfl⟩
      case round =>
        obtain ⟨n, hn, rfl, HA, rfl⟩ := hrel
        obtain ⟨m, hm⟩ : ∃ m, m = p + n := ⟨_, rfl⟩
        have HM : Hid (m = p + n) := hm
        have hmi : (p : Int) + (n : Int) = (m : Int) := by omega
        have m1 : m ≤ 1000 := by omega
        have hcell : m < 256 → wr.cell? ⟨w.heap.size, m, none⟩ = some (.bool (f m)) := fun h => HP0.out.cell h
        by_cases hns : n = size
        · have HL : Hid (Least xs size al ((p : Int), true)) := least_found HX.out HN.out (hns ▸ HA.out)
          clear hm
          subst hns
          by_cases hm2 : m < 256
          · have hd2 : decide ((m : Int) < 256) = true := decide_eq_true (by omega)
            have hm3 : (m : Int) < 256 := by omega
            have hc := hcell hm2
            clear hcell
            cases hf : f m with
            | true =>
              rw [hf] at hc
              clear hf
              go_wp2_with fail
              go_ret2
              exact ⟨⟨_, rfl, HL.out⟩, HB0.out⟩
            | false =>
              rw [hf] at hc
              go_wp2_with fail
              go_ret2
              exact ⟨⟨_, rfl, HL.out⟩, HB0.out⟩
          · have hd2 : decide ((m : Int) < 256) = false := decide_eq_false (by omega)
            clear hcell
            go_wp2_with fail
            go_ret2
            exact ⟨⟨_, rfl, HL.out⟩, HB0.out⟩
        · have hlt : decide ((n : Int) < (size : Int)) = true := decide_eq_true (by omega)
          have heq : ((n : Int) == (size : Int)) = false := by simp; omega
          have hns2 : n < size := by omega
          clear hm hns
          by_cases hm2 : m < 256
          · have hd2 : decide ((m : Int) < 256) = true := decide_eq_true (by omega)
            have hm3 : (m : Int) < 256 := by omega
            have hc := hcell hm2
            clear hcell
            cases hf : f m with
            | true =>
              rw [hf] at hc
              have HA2 : Hid (AllTo f p (n + 1)) := fun j hj => by
                by_cases e : j < n
                · exact HA.out j e
                · obtain rfl : j = n := by omega
                  rw [← HM.out]
                  exact ⟨hm2, hf⟩
              clear hf
              go_wp2_with fail
              go_roundw
              case rel => exact ⟨n + 1, by omega, by go_num, HA2.out, trivial⟩
              case measure => simp [intOf]; omega
            | false =>
              rw [hf] at hc
              have HN2 : Hid (NoneTo xs size al (p + al)) := noneTo_next ha HN.out (not_runs HX.out HX2.out hns2 (fun _ => by rw [← HM.out]; exact hf))
              clear hf
              go_wp2_with fail
              go_roundw
              case rel => exact ⟨p + al, by omega, by go_num, HN2.out, trivial⟩
              case measure => simp [intOf]; omega
          · have hd2 : decide ((m : Int) < 256) = false := decide_eq_false (by omega)
            have HN2 : Hid (NoneTo xs size al (p + al)) := noneTo_next ha HN.out (not_runs HX.out HX2.out hns2 (fun h => absurd h (by rw [← HM.out]; exact hm2)))
            clear hcell
            go_wp2_with fail
            go_roundw
            case rel => exact ⟨p + al, by omega, by go_num, HN2.out, trivial⟩
            case measure => simp [intOf]; omega
    · have hd : decide ((p : Int) < 256) = false := decide_eq_false (by omega)
      have HL : Hid (Least xs size al ((0 : Int), false)) := least_none hs HX2.out HN.out (by omega)
      go_wp2_with fail
      go_ret2
      exact ⟨⟨_, rfl, HL.out⟩, HB0.out⟩
set_option maxHeartbeats 1000000 in
theorem fit0_any {f : Nat → Bool} {size al : Int} (h : size = 0 ∨ al = 0) (w : World) :
    Calls Try.prog 17 #[.agg (ptsV f), .int .i64 size, .int .i64 al] w fun e w' => e = .returned (.tuple #[.int .i64 0, .bool false]) ∧ Below w.heap.size w w' := by
  have HB : Hid (∀ X, Below w.heap.size w (w.alloc X)) := fun X => (Below.refl _ _).alloc (Nat.le_refl _) _
  by_cases hs : size = 0
  · subst hs
    clear h
    go_enter Try.func17, Try.ntmps17
    go_wp2_with fail
    go_ret2
    exact ⟨rfl, HB.out _⟩
  · obtain rfl : al = 0 := h.resolve_left hs
    have z1 : (size == 0) = false := by simpa using hs
    clear h hs
    go_enter Try.func17, Try.ntmps17
    go_wp2_with fail
    go_ret2
    exact ⟨rfl, HB.out _⟩
end Go.Proofs.Ytogcpogoamoljaa
