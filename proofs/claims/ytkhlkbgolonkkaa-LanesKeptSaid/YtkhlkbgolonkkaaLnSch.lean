/- Lanes: Sched, the package's and the document's. (its walks are written by parts/gen_lnsch.py). Own work. -/
import Derived.Test.YtkhlkbgolonkkaaLnRow
namespace Go.Proofs.Ytkhlkbgolonkkaa
open Go.RowKit
def findS (o : Int) : List S3 → ByteArray × Int
  | [] => (⟨#[]⟩, 0)
  | x :: r => if o < x.t then (x.s, x.t - o) else findS o r
theorem rowF_pos : ∀ (l : List S3) (e : Int) (p : Option ByteArray), rowF e p l = 0 ∨ e ≤ rowF e p l
  | [], e, p => .inr (by unfold rowF; exact Int.le_refl _)
  | x :: r, e, p => by
    unfold rowF
    by_cases h : badR e p x
    · rw [if_pos h]; exact .inl rfl
    · rw [if_neg h]
      have ht : e < x.t := by
        by_cases h2 : x.t ≤ e
        · exact absurd (.inr (.inl h2)) h
        · omega
      rcases rowF_pos r x.t (some x.s) with h3 | h3
      · exact .inl h3
      · exact .inr (by omega)
theorem rowF_has : ∀ (l : List S3) (e : Int) (p : Option ByteArray) (o : Int), rowF e p l ≠ 0 → e ≤ o → o < rowF e p l → ∃ k, ∃ h : k < l.length, o < l[k].t
  | [], e, p, o, _, h1, h2 => by unfold rowF at h2; omega
  | x :: r, e, p, o, h0, h1, h2 => by
    unfold rowF at h0 h2
    by_cases h : badR e p x
    · rw [if_pos h] at h0; exact absurd rfl h0
    · rw [if_neg h] at h0 h2
      by_cases ht : o < x.t
      · exact ⟨0, by simp, ht⟩
      · obtain ⟨k, hk, h3⟩ := rowF_has r x.t (some x.s) o h0 (by omega) h2
        exact ⟨k + 1, by simpa using hk, h3⟩
/-- the tick that is meant -/
def tickF (R o : Int) : Int := (if o < 0 then 0 else o) % R
noncomputable def schedF (o : Int) (xs : List S3) : ByteArray × Int := if rowF 0 none xs = 0 then (⟨#[]⟩, 0) else findS (tickF (rowF 0 none xs) o) xs
set_option maxRecDepth 100000 in
set_option maxHeartbeats 400000 in
theorem sched_zero {w : World} {v : Value} {o : Int} (hl : Calls Try.prog 32 #[v] w fun e w' => e = .returned (.int .i64 0) ∧ Below w.heap.size w w') : Calls Try.prog 16 #[v, .int .i64 o] w fun e w' => e = .returned (.tuple #[.string ⟨#[]⟩, .int .i64 0]) ∧ Below w.heap.size w w' := by
  have HL := Lib.hid hl
  clear hl
  go_enter Try.func16, Try.ntmps16
  go_wp2_with fail
  refine HL.out.mono ?_
  rintro e w1 ⟨rfl, hb1⟩
  have HB1 := Lib.hid hb1
  clear hb1 HL
  go_wp2_with fail
  go_ret2
  exact ⟨rfl, HB1.out⟩
set_option maxRecDepth 100000 in
set_option maxHeartbeats 400000 in
theorem sched_pos {w : World} {v : Value} {xs : List S3} {o o1 R z : Int} (hl : Calls Try.prog 32 #[v] w fun e w' => e = .returned (.int .i64 R) ∧ Below w.heap.size w w') (h : Rs w v xs) (hR : 0 < R) (hz1 : 0 ≤ z) (hz : o1 % R = z) (ho : (o < 0 ∧ o1 = 0) ∨ (0 ≤ o ∧ o1 = o)) (hx : ∃ k, ∃ h : k < xs.length, z < xs[k].t) :
    Calls Try.prog 16 #[v, .int .i64 o] w fun e w' => e = .returned (.tuple #[.string (findS z xs).1, .int .i64 (findS z xs).2]) ∧ Below w.heap.size w w' := by
  have HL := Lib.hid hl
  have HR := Lib.hid h
  have HX := Lib.hid hx
  obtain ⟨ao, cap, rfl, h1, h2, _⟩ := h
  unfold maxLen at h2
  obtain ⟨n, hn⟩ : ∃ n, xs.length = n := ⟨_, rfl⟩
  have HN := Lib.hid hn
  rw [hn] at h1 HL ⊢
  obtain ⟨S, hS⟩ : ∃ S, findS z xs = S := ⟨_, rfl⟩
  rw [hS]
  have HS : Hid (findS z (xs.drop 0) = S) := hS
  clear hn hS hl hx
  rcases ho with ⟨ho, rfl⟩ | ⟨ho, rfl⟩
  · obtain rfl : z = 0 := by rw [← hz]; exact Int.zero_emod _
    go_enter Try.func16, Try.ntmps16
    go_wp2_with fail
    refine HL.out.mono ?_
    rintro e w1 ⟨rfl, hb1⟩
    have HB1 := Lib.hid hb1
    clear hb1 HL
    go_wp2_with fail
    go_loopw [7] (fun iv wr => ∃ i : Nat, i < n ∧ iv = .int .i64 (i : Int) ∧ Hid (findS (0 : Int) (xs.drop i) = S) ∧ Hid (∃ k, i ≤ k ∧ ∃ h : k < xs.length, (0 : Int) < xs[k].t) ∧ Hid (wr = w1)) (fun iv _ => n - (intOf iv).toNat)
    case atStart =>
      obtain ⟨k, hk, hk2⟩ := HX.out
      exact ⟨0, by have := HN.out; omega, rfl, HS, ⟨k, Nat.zero_le _, hk, hk2⟩, (rfl : _ = _)⟩
    case round =>
      clear HS HX
      obtain ⟨i, hin, rfl, HE, HX, HW⟩ := hrel
      have hix : i < xs.length := by rw [HN.out]; exact hin
      have ji : (i : Int) < (n : Int) := by omega
      have hw1 : IntKind.i64.wrap ((i : Int) + 1) = ((i + 1 : Nat) : Int) := by rw [IntKind.wrap_i64]; omega
      have HBr : Hid (Below w.heap.size w wr) := by rw [HW.out]; exact HB1.out
      obtain ⟨_, _, e', _, _, hxi, hc⟩ := HR.out.below HBr.out
      simp only [Value.slice.injEq] at e'
      obtain ⟨rfl, _, rfl⟩ := e'
      obtain ⟨b, of, rfl, c0, c1, c2⟩ := hc i hix
      obtain ⟨x0, x1, x2, x3⟩ := hxi xs[i] (List.getElem_mem _)
      have HD : Hid (findS (0 : Int) (xs[i] :: xs.drop (i + 1)) = S) := by
        have := HE.out
        rw [List.drop_eq_getElem_cons hix] at this
        exact this
      have HNx : Hid (xs[i].t ≤ (0 : Int) → i + 1 < n ∧ ∃ k, i + 1 ≤ k ∧ ∃ h : k < xs.length, (0 : Int) < xs[k].t) := fun hle => by
        obtain ⟨k, hk0, hk1, hk2⟩ := HX.out
        have hne : k ≠ i := fun e => by subst e; omega
        have := HN.out
        exact ⟨by omega, k, by omega, hk1, hk2⟩
      clear hc HE hxi HX
      generalize xs[i] = x at *
      obtain ⟨q, f, t⟩ := x
      simp only at c0 c1 c2 x0 x1 x2 x3
      by_cases ht : t ≤ (0 : Int)
      · obtain ⟨hi2, hX2⟩ := HNx.out ht
        have HX2 := Lib.hid hX2
        have HE2 : Hid (findS (0 : Int) (xs.drop (i + 1)) = S) := by
          have := HD.out
          unfold findS at this
          rw [if_neg (by show ¬ (0 : Int) < t; omega)] at this
          exact this
        clear hX2 HNx HD
        go_wp2_with fail
        go_roundw
        case rel => exact ⟨i + 1, hi2, rfl, HE2, HX2, HW⟩
        case measure => simp [intOf]; omega
      · have HF : Hid (S = (q, t - (0 : Int))) := by
          have := HD.out
          unfold findS at this
          rw [if_pos (by show (0 : Int) < t; omega)] at this
          exact this.symm
        have hws : IntKind.i64.wrap (t - (0 : Int)) = t - (0 : Int) := by rw [IntKind.wrap_i64]; omega
        clear HNx HD
        go_wp2_with fail
        go_region_held3 (fun w' => w'.cell? ⟨b, of + i * 3, none⟩ = some (.string q) ∧ w'.cell? ⟨b, of + i * 3 + 2, none⟩ = some (.int .i64 t)) (go_keep) (fail)
        all_goals
          go_wp2_with fail
          go_ret2
          exact ⟨by rw [HF.out]; show Ending.returned (.tuple #[.string q, .int .i64 (IntKind.i64.wrap t)]) = Ending.returned (.tuple #[.string q, .int .i64 (t - 0)]); rw [Int.sub_zero, show IntKind.i64.wrap t = t by rw [IntKind.wrap_i64]; omega], HBr.out.drew⟩
  · have ho' : 0 ≤ o1 := ho
    go_enter Try.func16, Try.ntmps16
    go_wp2_with fail
    refine HL.out.mono ?_
    rintro e w1 ⟨rfl, hb1⟩
    have HB1 := Lib.hid hb1
    clear hb1 HL
    go_wp2_with fail
    rw [hz]
    go_loopw [7] (fun iv wr => ∃ i : Nat, i < n ∧ iv = .int .i64 (i : Int) ∧ Hid (findS z (xs.drop i) = S) ∧ Hid (∃ k, i ≤ k ∧ ∃ h : k < xs.length, z < xs[k].t) ∧ Hid (wr = w1)) (fun iv _ => n - (intOf iv).toNat)
    case atStart =>
      obtain ⟨k, hk, hk2⟩ := HX.out
      exact ⟨0, by have := HN.out; omega, rfl, HS, ⟨k, Nat.zero_le _, hk, hk2⟩, (rfl : _ = _)⟩
    case round =>
      clear HS HX
      obtain ⟨i, hin, rfl, HE, HX, HW⟩ := hrel
      have hix : i < xs.length := by rw [HN.out]; exact hin
      have ji : (i : Int) < (n : Int) := by omega
      have hw1 : IntKind.i64.wrap ((i : Int) + 1) = ((i + 1 : Nat) : Int) := by rw [IntKind.wrap_i64]; omega
      have HBr : Hid (Below w.heap.size w wr) := by rw [HW.out]; exact HB1.out
      obtain ⟨_, _, e', _, _, hxi, hc⟩ := HR.out.below HBr.out
      simp only [Value.slice.injEq] at e'
      obtain ⟨rfl, _, rfl⟩ := e'
      obtain ⟨b, of, rfl, c0, c1, c2⟩ := hc i hix
      obtain ⟨x0, x1, x2, x3⟩ := hxi xs[i] (List.getElem_mem _)
      have HD : Hid (findS z (xs[i] :: xs.drop (i + 1)) = S) := by
        have := HE.out
        rw [List.drop_eq_getElem_cons hix] at this
        exact this
      have HNx : Hid (xs[i].t ≤ z → i + 1 < n ∧ ∃ k, i + 1 ≤ k ∧ ∃ h : k < xs.length, z < xs[k].t) := fun hle => by
        obtain ⟨k, hk0, hk1, hk2⟩ := HX.out
        have hne : k ≠ i := fun e => by subst e; omega
        have := HN.out
        exact ⟨by omega, k, by omega, hk1, hk2⟩
      clear hc HE hxi HX
      generalize xs[i] = x at *
      obtain ⟨q, f, t⟩ := x
      simp only at c0 c1 c2 x0 x1 x2 x3
      by_cases ht : t ≤ z
      · obtain ⟨hi2, hX2⟩ := HNx.out ht
        have HX2 := Lib.hid hX2
        have HE2 : Hid (findS z (xs.drop (i + 1)) = S) := by
          have := HD.out
          unfold findS at this
          rw [if_neg (by show ¬ z < t; omega)] at this
          exact this
        clear hX2 HNx HD
        go_wp2_with fail
        go_roundw
        case rel => exact ⟨i + 1, hi2, rfl, HE2, HX2, HW⟩
        case measure => simp [intOf]; omega
      · have HF : Hid (S = (q, t - z)) := by
          have := HD.out
          unfold findS at this
          rw [if_pos (by show z < t; omega)] at this
          exact this.symm
        have hws : IntKind.i64.wrap (t - z) = t - z := by rw [IntKind.wrap_i64]; omega
        clear HNx HD
        go_wp2_with fail
        go_region_held3 (fun w' => w'.cell? ⟨b, of + i * 3, none⟩ = some (.string q) ∧ w'.cell? ⟨b, of + i * 3 + 2, none⟩ = some (.int .i64 t)) (go_keep) (fail)
        all_goals
          go_wp2_with fail
          go_ret2
          exact ⟨by rw [HF.out]; rfl, HBr.out.drew⟩
theorem tick_ok {R o : Int} (hR : 0 < R) : 0 ≤ tickF R o ∧ tickF R o < R := by
  unfold tickF
  exact ⟨Int.emod_nonneg _ (by omega), Int.emod_lt_of_pos _ hR⟩
theorem sched_any {w : World} {v : Value} {xs : List S3} {o : Int} (h : Rs w v xs) (hp : xs.length ≤ 4398046511000) : Calls Try.prog 16 #[v, .int .i64 o] w fun e w' => e = .returned (.tuple #[.string (schedF o xs).1, .int .i64 (schedF o xs).2]) ∧ Below w.heap.size w w' := by
  have hl := length_any h hp
  have hpos := rowF_pos xs 0 none
  have hhas := rowF_has xs 0 none
  unfold schedF
  generalize rowF 0 none xs = R at *
  by_cases h0 : R = 0
  · subst h0
    rw [if_pos rfl]
    exact sched_zero hl
  · rw [if_neg h0]
    have hR : 0 < R := by rcases hpos with h | h <;> omega
    obtain ⟨t1, t2⟩ := tick_ok (o := o) hR
    refine sched_pos (o1 := if o < 0 then 0 else o) hl h hR t1 rfl ?_ (hhas _ h0 t1 t2)
    by_cases h1 : o < 0
    · rw [if_pos h1]; exact .inl ⟨h1, rfl⟩
    · rw [if_neg h1]; exact .inr ⟨by omega, rfl⟩
end Go.Proofs.Ytkhlkbgolonkkaa
