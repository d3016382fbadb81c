/- The document's own answer to chapter 5: Number. -/
import Derived.Test.YtkddfhnfhncgpaaDoorScDec
import Derived.Test.YtkddfhnfhncgpaaDoorScQuote
import Derived.Lib.Hide
namespace Go.Proofs.YtkddfhnfhncgpaaDoor
open Go.RowKit Sc
/-- where the digits stand: m is left, L is written -/
def NumI (n m : Nat) (L : List Nat) : Prop := (L = [] ∧ m = n) ∨ (L ≠ [] ∧ m = 0 ∧ L = decN n) ∨ (L ≠ [] ∧ 0 < m ∧ decN m ++ L = decN n)
theorem NumI.next {n m : Nat} {L : List Nat} (h : NumI n m L) (hm : 0 < m ∨ L = []) : NumI n (m / 10) ((48 + m % 10) :: L) := by
  have key : decN m ++ L = decN n := by
    rcases h with ⟨rfl, rfl⟩ | ⟨h1, h2, h3⟩ | ⟨h1, h2, h3⟩
    · simp
    · rcases hm with hm | hm
      · omega
      · exact absurd hm h1
    · exact h3
  by_cases h10 : m < 10
  · refine .inr (.inl ⟨by simp, by omega, ?_⟩)
    rw [← key, decN_one h10, show m % 10 = m from by omega]
    rfl
  · refine .inr (.inr ⟨by simp, by omega, ?_⟩)
    rw [← key, decN_more h10]
    simp
theorem NumI.len {n m : Nat} {L : List Nat} (h : NumI n m L) (hn : n ≤ top) : L.length ≤ 20 := by
  have := decN_top hn
  rcases h with ⟨rfl, rfl⟩ | ⟨_, _, h3⟩ | ⟨_, _, h3⟩
  · simp
  · rw [h3]; exact this
  · rw [← h3] at this; simp at this; omega
theorem NumI.done {n m : Nat} {L : List Nat} (h : NumI n m L) (hm : m = 0) (hL : L ≠ []) : L = decN n := by
  rcases h with ⟨h1, _⟩ | ⟨_, _, h3⟩ | ⟨_, h2, _⟩
  · exact absurd h1 hL
  · exact h3
  · omega
theorem NumI.small {n m : Nat} {L : List Nat} (h : NumI n m L) : ∀ z ∈ L, z < 256 := by
  intro z hz
  have hs := decN_small n
  rcases h with ⟨rfl, _⟩ | ⟨_, _, h3⟩ | ⟨_, _, h3⟩
  · simp at hz
  · rw [h3] at hz; have := hs z hz; omega
  · have := hs z (by rw [← h3]; exact List.mem_append_right _ hz); omega
theorem NumI.le {m : Nat} (hm : m ≤ top) : m / 10 ≤ top := by omega
def lenOf : Value → Nat | .slice _ n _ => n | _ => 0
theorem own_first (w : World) {z base : Nat} (hb : base ≤ w.heap.size) : Own (w.alloc (.cells #[.int .u8 (z : Int)] 5)) base (.slice (some ⟨w.heap.size, 0, none⟩) 1 1) [z] := by
  exact ⟨rfl, .inr ⟨w.heap.size, 1, #[.int .u8 (z : Int)], rfl, hb, heap_alloc_new w _, Nat.le_refl _, by unfold maxLen; omega, rfl, rfl⟩⟩
/-- a number as the program holds it -/
def IsN (x : Int) (m : Nat) : Prop := x = (m : Int)
theorem IsN.div {x : Int} {m : Nat} (h : IsN x m) : IsN (x.tdiv 10) (m / 10) := by unfold IsN at *; rw [h]; rfl
theorem IsN.mod {x : Int} {m : Nat} (h : IsN x m) : x.tmod 10 = ((m % 10 : Nat) : Int) := by unfold IsN at h; rw [h]; rfl
set_option maxRecDepth 100000 in
set_option maxHeartbeats 1000000 in
theorem rNumber_any {x : Int} {n : Nat} (hx : IsN x n) (hn : n ≤ top) (w : World) :
    Calls Tryd.prog 14 #[.int .u64 x] w fun e w' => ∃ v, e = .returned v ∧ Own w' w.heap.size v (decN n) ∧ Below w.heap.size w w' := by
  have HN : Hid (n ≤ top) := hn
  have HXn : Hid (IsN x n) := hx
  clear hn hx
  go_enter Tryd.func14, Tryd.ntmps14
  go_wp2_with fail
  go_loopw [0, 3] (fun mv b wr => ∃ (y : Int) (m : Nat) (L : List Nat) (ao : Option Addr) (c : Nat), mv = .int .u64 y ∧ b = .slice ao L.length c ∧ Hid (IsN y m) ∧ Hid (m ≤ top) ∧ Hid (NumI n m L) ∧ Hid (Own wr w.heap.size b L) ∧ Hid (Below w.heap.size w wr)) (fun mv b _ => 2 * (intOf mv).toNat + if lenOf b = 0 then 1 else 0)
  case atStart => exact ⟨x, n, [], none, 0, rfl, rfl, HXn, HN, .inl ⟨rfl, rfl⟩, own_nil _ _, Below.refl _ _⟩
  case round =>
    obtain ⟨y, m, L, ao, c, rfl, rfl, HY, HM, HI, HO, HB⟩ := hrel
    have hll := HI.out.len HN.out
    obtain ⟨q, hq⟩ : ∃ q, y.tdiv 10 = q := ⟨_, rfl⟩
    have HQ : Hid (IsN q (m / 10)) := by rw [← hq]; exact HY.out.div
    have hr0 := HY.out.mod
    have hr : m % 10 < 10 := by omega
    have hsz := HB.out.size
    have HX : Hid ((0 < m ∨ L = []) → NumI n (m / 10) ((48 + m % 10) :: L)) := fun hm => HI.out.next hm
    have HT : Hid (m / 10 ≤ top) := NumI.le HM.out
    have HSl : Hid (Sl wr (.slice ao L.length c) L) := HO.out.sl HI.out.small
    have q0 : 0 ≤ q := by have := HQ.out; unfold IsN at this; omega
    have q1 : q < 18446744073709551616 := by have := HQ.out; have := HT.out; unfold IsN top at *; omega
    generalize hrr : m % 10 = r at *
    clear hrr
    have HOF : Hid (Own (wr.alloc (.cells #[.int .u8 (48 + (r : Int))] 5)) w.heap.size (.slice (some ⟨wr.heap.size, 0, none⟩) 1 1) [48 + r]) := by
      have := own_first (z := 48 + r) wr hsz
      rw [show ((48 + r : Nat) : Int) = 48 + (r : Int) from by omega] at this
      exact this
    have HSA : Hid (∀ X, Sl (wr.alloc X) (.slice ao L.length c) L) := fun X => HSl.out.below ((Below.refl _ _).alloc (Nat.le_refl _) _)
    have fin : ∀ v2 w2, SpPost wr w.heap.size (.slice (some ⟨wr.heap.size, 0, none⟩) 1 1) [48 + r] L v2 w2 → (0 < m ∨ L = []) → (0 < m → m / 10 < m) → (∃ (y : Int) (m : Nat) (L : List Nat) (ao : Option Addr) (c : Nat), Value.int .u64 q = .int .u64 y ∧ v2 = .slice ao L.length c ∧ Hid (IsN y m) ∧ Hid (m ≤ top) ∧ Hid (NumI n m L) ∧ Hid (Own w2 w.heap.size v2 L) ∧ Hid (Below w.heap.size w w2)) ∧ (2 * (intOf (.int .u64 q)).toNat + if lenOf v2 = 0 then 1 else 0) < 2 * (intOf (.int .u64 y)).toNat + if lenOf (.slice ao L.length c) = 0 then 1 else 0 := by
      intro v2 w2 hp hm hlt
      have ho : Own w2 w.heap.size v2 ((48 + r) :: L) := hp.1
      obtain ⟨g, cp, rfl, _⟩ := ho.form (by simp)
      refine ⟨⟨q, m / 10, (48 + r) :: L, _, cp, rfl, rfl, HQ, HT, HX.out hm, ho, HB.out.trans (hp.2.1.below hsz (fun j _ e => by cases e; exact hsz))⟩, ?_⟩
      have e1 : (intOf (.int .u64 q)).toNat = m / 10 := by have := HQ.out; unfold IsN at this; simp [intOf]; omega
      have e2 : (intOf (.int .u64 y)).toNat = m := by have := HY.out; unfold IsN at this; simp [intOf]; omega
      rw [e1, e2]
      rw [if_neg (show ¬ lenOf (Value.slice (some ⟨g, 0, none⟩) ((48 + r) :: L).length cp) = 0 from by simp [lenOf])]
      rcases hm with hm | rfl
      · have := hlt hm; split <;> omega
      · rw [if_pos (show lenOf (Value.slice ao ([] : List Nat).length c) = 0 from rfl)]
        omega
    have HF := Lib.hid fin
    clear fin
    by_cases hm : 0 < m
    · have i0 : 0 < y := by have := HY.out; unfold IsN at this; omega
      go_wp2_with (at_builtin; refine wpList_append_sl (v := .slice (some ⟨wr.heap.size, 0, none⟩) 1 1) (.tmp 15) (.tmp 16) (by rfl) rfl rfl HOF.out rfl (HSA.out _) (by simp only [List.length_cons, List.length_nil]; omega) (by simp; omega) ?_; intro v2 w2 h2 g2 l2; have HP : Hid (SpPost wr w.heap.size (.slice (some ⟨wr.heap.size, 0, none⟩) 1 1) [48 + r] L v2 w2) := SpPost.mk h2 g2 l2; clear h2 g2 l2)
      exact HF.out _ _ HP.out (.inl hm) (fun _ => by omega)
    · have i0 : ¬ 0 < y := by have := HY.out; unfold IsN at this; omega
      by_cases hL : L = []
      · have i1 : ((L.length : Int) == 0) = true := by rw [hL]; rfl
        have HLn : Hid (L = []) := hL
        clear hL
        go_wp2_with (at_builtin; refine wpList_append_sl (v := .slice (some ⟨wr.heap.size, 0, none⟩) 1 1) (.tmp 15) (.tmp 16) (by rfl) rfl rfl HOF.out rfl (HSA.out _) (by simp only [List.length_cons, List.length_nil]; omega) (by simp; omega) ?_; intro v2 w2 h2 g2 l2; have HP : Hid (SpPost wr w.heap.size (.slice (some ⟨wr.heap.size, 0, none⟩) 1 1) [48 + r] L v2 w2) := SpPost.mk h2 g2 l2; clear h2 g2 l2)
        exact HF.out _ _ HP.out (.inr HLn.out) (fun h => absurd h hm)
      · have i1 : ((L.length : Int) == 0) = false := beq_eq_false_iff_ne.2 (fun e => hL (List.eq_nil_of_length_eq_zero (by omega)))
        have HE : Hid (L = decN n) := HI.out.done (by omega) hL
        go_wp2_with fail
        go_ret
        rw [← HE.out]
        exact ⟨_, rfl, HO.out, HB.out⟩
end Go.Proofs.YtkddfhnfhncgpaaDoor
