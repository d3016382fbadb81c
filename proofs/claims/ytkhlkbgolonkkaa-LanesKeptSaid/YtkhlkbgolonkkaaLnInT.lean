/- Lanes: inTurn of any runs. Own work. -/
import Derived.Test.YtkhlkbgolonkkaaLnRef
namespace Go.Proofs.Ytkhlkbgolonkkaa
open Go.RowKit
theorem toList_inj {a b : ByteArray} (h : a.toList = b.toList) : a = b := by
  rw [ByteArray.toList_eq, ByteArray.toList_eq] at h
  cases a; cases b
  simp only [ByteArray.mk.injEq]
  exact Array.toList_inj.1 h
/-- has a subject run for so many ticks more -/
noncomputable def adds (xs : List S3) (s : ByteArray) (n : Int) : List S3 :=
  if n = 0 then xs else match xs.getLast? with
  | none => [⟨s, 0, n⟩]
  | some l => if (l.s.toList == s.toList) = true then xs.dropLast ++ [⟨l.s, l.f, l.t + n⟩] else xs ++ [⟨s, l.t, l.t + n⟩]
theorem adds_len (xs : List S3) (s : ByteArray) (n : Int) : (adds xs s n).length ≤ xs.length + 1 := by
  unfold adds
  split
  · omega
  · split
    · simp
    · rename_i l hl
      have hne : xs ≠ [] := fun e => by simp [e] at hl
      have := List.length_pos_iff.2 hne
      split
      · simp only [List.length_append, List.length_dropLast, List.length_singleton]; omega
      · simp
theorem adds_end (xs : List S3) (s : ByteArray) (n : Int) : endF (adds xs s n) = endF xs + n := by
  unfold adds
  split
  · omega
  · split
    · rename_i h
      simp [endF, h]
    · rename_i l hl
      split
      · simp [endF, hl]
      · simp [endF, hl]
theorem add_any {w : World} {k base : Nat} {v : Value} {xs : List S3} {s : ByteArray} {n : Int} (h : Rw w k base v xs) (hb : base ≤ w.heap.size) (h0 : 0 ≤ n) (h1 : n ≤ 65536) (he0 : 0 ≤ endF xs) (he1 : endF xs ≤ 65536) (hlen : xs.length ≤ 100000) (hnil : xs = [] → v = .slice none 0 0) :
    Calls Try.prog 35 #[.pointer (some ⟨k, 0, none⟩), .string s, .int .i64 n] w fun e w' => e = .returned (.tuple #[]) ∧ ∃ v', Rw w' k base v' (adds xs s n) ∧ Below base w w' ∧ (adds xs s n = [] → v' = .slice none 0 0) := by
  by_cases hn : n = 0
  · subst hn
    refine (add_zero k s w).mono ?_
    rintro e w' ⟨rfl, hw⟩
    subst hw
    have ea : adds xs s 0 = xs := by simp [adds]
    rw [ea]
    exact ⟨rfl, v, h, Below.refl _ _, hnil⟩
  · have hp : 0 < n := by omega
    rcases List.eq_nil_or_concat xs with rfl | ⟨ys, l, rfl⟩
    · obtain rfl := hnil rfl
      refine (add_first (s := s) h hb hp h1).mono ?_
      rintro e w' ⟨rfl, v', hr, hbl⟩
      have ea : adds [] s n = [⟨s, 0, n⟩] := by simp [adds, hn]
      rw [ea]
      exact ⟨rfl, v', hr, hbl, fun e => by cases e⟩
    · rw [List.concat_eq_append] at *
      have el : (ys ++ [l]).getLast? = some l := by simp
      have ee : endF (ys ++ [l]) = l.t := by simp [endF]
      rw [ee] at he0 he1
      have hlen2 : ys.length ≤ 100000 := by simp at hlen; omega
      by_cases hs : (l.s.toList == s.toList) = true
      · have es : l.s = s := by
          have := eq_of_beq hs
          exact toList_inj this
        subst es
        have ea : adds (ys ++ [l]) l.s n = ys ++ [⟨l.s, l.f, l.t + n⟩] := by simp [adds, hn]
        rw [ea]
        refine (add_grow h hn (by rw [IntKind.wrap_i64]; omega)).mono ?_
        rintro e w' ⟨rfl, v', hr, hbl⟩
        exact ⟨rfl, v', hr, hbl, fun e => by simp at e⟩
      · have hs' : (l.s.toList == s.toList) = false := by simpa using hs
        have ea : adds (ys ++ [l]) s n = (ys ++ [l]) ++ [⟨s, l.t, l.t + n⟩] := by simp [adds, hn, hs']
        rw [ea]
        refine (add_next (s := s) (n := n) h hb hp h1 he0 he1 hs' hlen2).mono ?_
        rintro e w' ⟨rfl, v', hr, hbl⟩
        exact ⟨rfl, v', by simpa using hr, hbl, fun e => by simp at e⟩
theorem end_any {w : World} {k base : Nat} {v : Value} {xs : List S3} (h : Rw w k base v xs) (hnil : xs = [] → v = .slice none 0 0) : Calls Try.prog 36 #[.pointer (some ⟨k, 0, none⟩)] w fun e w' => e = .returned (.int .i64 (endF xs)) ∧ (w' = w ∨ w' = w.drew) := by
  rcases List.eq_nil_or_concat xs with rfl | ⟨ys, l, rfl⟩
  · obtain rfl := hnil rfl
    exact (end_nil h.cell).mono fun e w' ⟨he, hw⟩ => ⟨he, .inl hw⟩
  · rw [List.concat_eq_append] at *
    obtain ⟨g, cap, rfl, hg1, hg2, hc, hm⟩ := h.own.pos (by simp)
    have c2 := h.own.cell ys.length 2 (by simp) (by omega)
    have gl : (ys ++ [l])[ys.length]'(by simp) = l := by simp
    rw [gl] at c2
    have ee : endF (ys ++ [l]) = l.t := by simp [endF]
    rw [ee]
    exact (end_some (n := ys.length) h.cell (by simp) hc hm c2).mono fun e w' ⟨he, hw⟩ => ⟨he, .inr hw⟩
def sumN : List R4 → Nat
  | [] => 0
  | r :: rs => r.b + sumN rs
theorem sumN_append (xs ys : List R4) : sumN (xs ++ ys) = sumN xs + sumN ys := by
  induction xs with
  | nil => simp [sumN]
  | cons x r ih => simp only [List.cons_append, sumN, ih]; omega
theorem sumN_take (xs : List R4) (i : Nat) : sumN (xs.take i) ≤ sumN xs := by
  have h := sumN_append (xs.take i) (xs.drop i)
  rw [List.take_append_drop] at h
  omega
/-- runs and idles one behind the other -/
noncomputable def turnF (a : List S3) (xs : List R4) : List S3 := xs.foldl (fun a r => adds a r.s (r.b : Int)) a
theorem turnF_end : ∀ (xs : List R4) (a : List S3), endF (turnF a xs) = endF a + (sumN xs : Int)
  | [], a => by simp [turnF, sumN]
  | x :: r, a => by
    have := turnF_end r (adds a x.s (x.b : Int))
    rw [adds_end] at this
    show endF (turnF (adds a x.s (x.b : Int)) r) = _
    rw [this]
    simp only [sumN]
    omega
theorem turnF_len : ∀ (xs : List R4) (a : List S3), (turnF a xs).length ≤ a.length + xs.length
  | [], a => by simp [turnF]
  | x :: r, a => by
    have := turnF_len r (adds a x.s (x.b : Int))
    have h2 := adds_len a x.s (x.b : Int)
    show (turnF (adds a x.s (x.b : Int)) r).length ≤ _
    simp only [List.length_cons]
    omega
theorem turnF_next (xs : List R4) (i : Nat) (h : i < xs.length) : turnF [] (xs.take (i + 1)) = adds (turnF [] (xs.take i)) xs[i].s (xs[i].b : Int) := by
  rw [List.take_succ_eq_append_getElem h]
  unfold turnF
  rw [List.foldl_append]
  rfl
theorem sumN_next (xs : List R4) (i : Nat) (h : i < xs.length) : sumN (xs.take (i + 1)) = sumN (xs.take i) + xs[i].b := by
  rw [List.take_succ_eq_append_getElem h, sumN_append]
  simp [sumN]
set_option maxRecDepth 100000 in
set_option maxHeartbeats 4000000 in
theorem inTurn_any {w : World} {v : Value} {xs : List R4} {m : Nat} (h : Rn w v xs) (hm : m ≤ 65536) (hs : sumN xs ≤ m) (hl : xs.length ≤ 65536) : Calls Try.prog 26 #[.int .i64 (m : Int), v] w fun e w' => ∃ u, e = .returned u ∧ OwnS w' w.heap.size u (adds (turnF [] xs) sN ((m : Int) - (sumN xs : Int))) ∧ Below w.heap.size w w' := by
  have HR := Lib.hid h
  obtain ⟨ao, cap, rfl, h1, h2, h3, _⟩ := h
  unfold maxLen at h2
  obtain ⟨n, hn⟩ : ∃ n, xs.length = n := ⟨_, rfl⟩
  have HN := Lib.hid hn
  have HM : Hid (m ≤ 65536 ∧ sumN xs ≤ m ∧ n ≤ 65536) := ⟨hm, hs, by omega⟩
  rw [hn] at h1 ⊢
  have HR0 : Hid (Rw (w.alloc (.cells #[.slice none 0 0] 70)) w.heap.size w.heap.size (.slice none 0 0) []) := ⟨Array.getElem?_push_size (xs := w.heap), OwnS.nil _ _, Nat.le_refl _, fun e => by cases e⟩
  have HB0 : Hid (Below w.heap.size w (w.alloc (.cells #[.slice none 0 0] 70))) := (Below.refl _ _).alloc (Nat.le_refl _) _
  clear hn h3 hs hm hl
  go_enter Try.func26, Try.ntmps26
  go_wp2_with fail
  go_loopw [10] (fun iv wr => ∃ i : Nat, i ≤ n ∧ iv = .int .i64 (i : Int) ∧ Hid (Below w.heap.size w wr) ∧ ∃ u, Hid (Rw wr w.heap.size w.heap.size u (turnF [] (xs.take i)) ∧ (turnF [] (xs.take i) = [] → u = .slice none 0 0))) (fun iv _ => n - (intOf iv).toNat)
  case atStart => exact ⟨0, by omega, rfl, HB0, _, HR0, fun _ => rfl⟩
  case round =>
    clear HR0 HB0
    obtain ⟨i, hi, rfl, HB, u, HU⟩ := hrel
    have HL : Hid ((turnF [] (xs.take i)).length ≤ 65536) := by
      have := turnF_len (xs.take i) []
      have h5 := HM.out.2.2
      simp only [List.length_nil, List.length_take] at this
      show _ ≤ _
      omega
    have HS : Hid (endF (turnF [] (xs.take i)) = (sumN (xs.take i) : Int)) := by
      have := turnF_end (xs.take i) []
      show _ = _
      rw [this]
      simp [endF]
    by_cases hin : i < n
    · have hix : i < xs.length := by rw [HN.out]; exact hin
      have ji : (i : Int) < (n : Int) := by omega
      have hw1 : IntKind.i64.wrap ((i : Int) + 1) = ((i + 1 : Nat) : Int) := by rw [IntKind.wrap_i64]; omega
      obtain ⟨_, _, e', _, _, _, hc⟩ := HR.out.below HB.out
      simp only [Value.slice.injEq] at e'
      obtain ⟨rfl, _, rfl⟩ := e'
      obtain ⟨b, of, rfl, c0, c1, c2, c3⟩ := hc i hix
      have HT := Lib.hid (turnF_next xs i hix)
      have HQ : Hid (sumN (xs.take i) + xs[i].b ≤ 65536) := by
        have h6 := sumN_next xs i hix
        have h7 := sumN_take xs (i + 1)
        have h8 := HM.out
        show _ ≤ _
        omega
      clear hc
      generalize xs[i] = x at *
      have hwb : IntKind.i64.wrap (x.b : Int) = (x.b : Int) := by have := HQ.out; rw [IntKind.wrap_i64]; omega
      have HA : Hid (∀ W, Below wr.heap.size wr W → Calls Try.prog 35 #[.pointer (some ⟨w.heap.size, 0, none⟩), .string x.s, .int .i64 (x.b : Int)] W fun e w' => e = .returned (.tuple #[]) ∧ ∃ v', Rw w' w.heap.size w.heap.size v' (turnF [] (xs.take (i + 1))) ∧ Below w.heap.size W w' ∧ (turnF [] (xs.take (i + 1)) = [] → v' = .slice none 0 0)) := by
        intro W hW
        have h9 := HQ.out
        have h10 := HL.out
        rw [HT.out]
        exact add_any (HU.out.1.below hW) (Nat.le_trans HB.out.size hW.size) (by omega) (by omega) (by rw [HS.out]; omega) (by rw [HS.out]; omega) (by omega) HU.out.2
      clear HT HQ
      go_wp2_with fail
      have ha : Below wr.heap.size wr (wr.alloc (.cells #[.int .i64 x.k, .string x.s, .int .u64 (x.b : Int), .int .u64 (x.p : Int)] 30)) := (Below.refl _ _).alloc (Nat.le_refl _) _
      refine (HA.out _ ha).mono ?_
      rintro e w5 ⟨rfl, v5, hr5, hb5, hn5⟩
      have HR5 : Hid (Rw w5 w.heap.size w.heap.size v5 (turnF [] (xs.take (i + 1))) ∧ (turnF [] (xs.take (i + 1)) = [] → v5 = .slice none 0 0)) := ⟨hr5, hn5⟩
      have HB5 : Hid (Below w.heap.size w w5) := (HB.out.trans (ha.mono HB.out.size)).trans hb5
      clear ha hr5 hb5 hn5 HA
      go_wp2_with fail
      go_roundw
      case rel => exact ⟨i + 1, by omega, rfl, HB5, v5, HR5⟩
      case measure => simp [intOf]; omega
    · obtain rfl : i = n := by omega
      have et : xs.take i = xs := List.take_of_length_le (by rw [HN.out]; exact Nat.le_refl _)
      rw [et] at HU HL HS
      have HE := Lib.hid (end_any HU.out.1 HU.out.2)
      rw [HS.out] at HE
      obtain ⟨S, hS⟩ : ∃ S, sumN xs = S := ⟨_, rfl⟩
      have HZ : Hid (sumN xs = S) := hS
      rw [hS] at HE HS HM
      have hw2 : IntKind.i64.wrap ((m : Int) - (S : Int)) = (m : Int) - (S : Int) := by have := HM.out; rw [IntKind.wrap_i64]; omega
      have HA : Hid (∀ W, W = wr ∨ W = wr.drew → Calls Try.prog 35 #[.pointer (some ⟨w.heap.size, 0, none⟩), .string ⟨#[]⟩, .int .i64 ((m : Int) - (S : Int))] W fun e w' => e = .returned (.tuple #[]) ∧ ∃ v', Rw w' w.heap.size w.heap.size v' (adds (turnF [] xs) sN ((m : Int) - (S : Int))) ∧ Below w.heap.size w w') := by
        intro W hW
        have h9 := HM.out
        have h10 := HL.out
        have hr : Rw W w.heap.size w.heap.size u (turnF [] xs) := by
          rcases hW with e | e
          · rw [e]; exact HU.out.1
          · rw [e]; exact HU.out.1.drew
        have hbb : Below w.heap.size w W := by
          rcases hW with e | e
          · rw [e]; exact HB.out
          · rw [e]; exact HB.out.drew
        exact (add_any (s := sN) hr hbb.size (by omega) (by omega) (by rw [HS.out]; omega) (by rw [HS.out]; omega) (by omega) HU.out.2).mono fun e w' ⟨he, v', h1, h2, _⟩ => ⟨he, v', h1, hbb.trans h2⟩
      clear hS
      go_wp2_with fail
      refine HE.out.mono ?_
      rintro e w5 ⟨rfl, hw5⟩
      have HW5 : Hid (w5 = wr ∨ w5 = wr.drew) := hw5
      clear hw5 HE
      go_wp2_with fail
      refine (HA.out _ HW5.out).mono ?_
      rintro e w6 ⟨rfl, v6, hr6, hb6⟩
      have HO6 := Lib.hid hr6.own
      have HB6 := Lib.hid hb6
      have x6 := hr6.cell
      clear hr6 hb6 HA
      go_wp2_with fail
      go_ret
      exact ⟨_, rfl, by rw [HZ.out]; exact HO6.out, HB6.out⟩
end Go.Proofs.Ytkhlkbgolonkkaa
