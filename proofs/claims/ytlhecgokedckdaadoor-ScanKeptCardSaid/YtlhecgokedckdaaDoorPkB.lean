import Derived.Test.YtlhecgokedckdaaDoorRefE0
import Derived.Test.YtlhecgokedckdaaDoorScNamed
import Derived.Lib.ItoaNum
import Derived.Lib.UnsafeStr
import Derived.Test.YtlhecgokedckdaaDoorScQuote
import Derived.Lib.Hide
/- Plain: a number's digits; what Named asks of a piece. -/
namespace Go.Proofs.YtlhecgokedckdaaDoor
namespace Sc
/-- a number's decimal digits -/
def decN (u : Nat) : List Nat := if u < 10 then [48 + u] else decN (u / 10) ++ [48 + u % 10]
termination_by u
decreasing_by omega
theorem decN_one {u : Nat} (h : u < 10) : decN u = [48 + u] := by rw [decN, if_pos h]
theorem decN_more {u : Nat} (h : ¬ u < 10) : decN u = decN (u / 10) ++ [48 + u % 10] := by rw [decN, if_neg h]
theorem decN_small (u : Nat) : ∀ z ∈ decN u, 48 ≤ z ∧ z ≤ 57 := by
  induction u using Nat.strongRecOn with
  | _ u ih =>
    by_cases h : u < 10
    · rw [decN_one h]; intro z hz; simp at hz; omega
    · rw [decN_more h]
      intro z hz
      rcases List.mem_append.1 hz with hz | hz
      · exact ih (u / 10) (by omega) z hz
      · simp at hz; omega
theorem decN_pos (u : Nat) : 0 < (decN u).length := by
  by_cases h : u < 10
  · rw [decN_one h]; simp
  · rw [decN_more h]; simp
theorem decN_len : ∀ (k u : Nat), u < 10 ^ (k + 1) → (decN u).length ≤ k + 1
  | 0, u, h => by rw [decN_one (by omega)]; simp
  | k + 1, u, h => by
    by_cases h1 : u < 10
    · rw [decN_one h1]; simp
    · rw [decN_more h1]
      have h2 : u < 10 ^ (k + 1) * 10 := by rw [← Nat.pow_succ]; exact h
      have := decN_len k (u / 10) (by omega)
      simp; omega
theorem decN_top {u : Nat} (h : u ≤ top) : (decN u).length ≤ 20 := decN_len 19 u (by unfold top at h; omega)
theorem decN_digits (u : Nat) : Lib.byteCells (Lib.decDigits u) = (decN u).map fun z => Value.int .u8 ((z : Nat) : Int) := by
  induction u using Nat.strongRecOn with
  | _ u ih =>
    rw [Lib.decDigits]
    by_cases h : u < 10
    · rw [dif_pos h, decN_one h]
      simp [Lib.byteCells]
      omega
    · rw [dif_neg h, decN_more h]
      have := ih (u / 10) (by omega)
      unfold Lib.byteCells at this ⊢
      rw [List.map_append, List.map_append, this]
      congr 1
      simp
      omega
/-- reading digits: none is left, none is beyond -/
theorem digits_read {b : Nat} (hb : 48 ≤ b ∧ b ≤ 57) : value b = b - 48 := by unfold value; rw [if_pos hb]
theorem over_no {n d : Nat} (h : n * 10 + d ≤ top) : over n 10 d = false := by
  unfold over
  rw [decide_eq_false_iff_not]
  have : n ≤ (top - d) / 10 := (Nat.le_div_iff_mul_le (by omega)).2 (by omega)
  omega
theorem over_yes {n d : Nat} (hd : d ≤ top) (h : over n 10 d = false) : n * 10 + d ≤ top := by
  unfold over at h
  rw [decide_eq_false_iff_not] at h
  have h1 : n ≤ (top - d) / 10 := by omega
  have := (Nat.le_div_iff_mul_le (by omega)).1 h1
  omega
theorem digits_snoc {u : Nat} : ∀ (l : List Nat) (n m k : Nat), digitsF 10 n l = .ok m k → k = l.length → 48 ≤ u → u ≤ 57 → m * 10 + (u - 48) ≤ top → digitsF 10 n (l ++ [u]) = .ok (m * 10 + (u - 48)) (k + 1)
  | [], n, m, k, h, hk, h1, h2, h3 => by
    cases h
    have hv : value u = u - 48 := digits_read ⟨h1, h2⟩
    rw [List.nil_append, digitsF, if_neg (by omega), hv, over_no h3]
    rfl
  | b :: l, n, m, k, h, hk, h1, h2, h3 => by
    rw [digitsF] at h
    split at h
    · cases h; simp at hk
    · rename_i hv
      split at h
      · cases h
      · rename_i ho
        cases hd : digitsF 10 (n * 10 + value b) l with
        | bad j => rw [hd] at h; cases h
        | ok m' j =>
          rw [hd] at h
          cases h
          have := digits_snoc l _ _ _ hd (by simp at hk; omega) h1 h2 h3
          rw [List.cons_append, digitsF, if_neg hv, if_neg ho, this]
          simp [Res.shift]
          omega
theorem digits_dec (u : Nat) (h : u ≤ top) : digitsF 10 0 (decN u) = .ok u (decN u).length := by
  induction u using Nat.strongRecOn with
  | _ u ih =>
    by_cases h1 : u < 10
    · rw [decN_one h1]
      have hv : value (48 + u) = u := by rw [digits_read (by omega)]; omega
      rw [digitsF, if_neg (by omega), hv, over_no (by omega)]
      simp [digitsF, Res.shift]
    · rw [decN_more h1]
      have := digits_snoc (u := 48 + u % 10) _ _ _ _ (ih (u / 10) (by omega) (by omega)) rfl (by omega) (by omega) (by omega)
      rw [this]
      simp
      omega
theorem decN_head (u : Nat) : (decN u).headD 0 = 48 → decN u = [48] := by
  induction u using Nat.strongRecOn with
  | _ u ih =>
    by_cases h : u < 10
    · rw [decN_one h]; intro hh; simpa using hh
    · rw [decN_more h]
      have hp := decN_pos (u / 10)
      intro hh
      have h2 : (decN (u / 10)).headD 0 = 48 := by
        cases e : decN (u / 10) with
        | nil => rw [e] at hp; simp at hp
        | cons a t => rw [e] at hh; simpa using hh
      have h3 := ih (u / 10) (by omega) h2
      by_cases h4 : u / 10 < 10
      · rw [decN_one h4] at h3
        simp at h3
        omega
      · rw [decN_more h4] at h3
        have := decN_pos (u / 10 / 10)
        have h5 := congrArg List.length h3
        rw [List.length_append] at h5
        simp only [List.length_cons, List.length_nil] at h5
        omega
theorem rint_dec {u : Nat} (h : u ≤ top) : rintF (decN u) = .ok u (decN u).length := by
  have hx : isHex (decN u) = false := by
    unfold isHex
    rw [decide_eq_false_iff_not]
    have hs := decN_small u
    intro hh
    cases e : decN u with
    | nil => rw [e] at hh; simp at hh
    | cons a t =>
      cases t with
      | nil => rw [e] at hh; simp at hh
      | cons b t =>
        have := hs b (by rw [e]; simp)
        rw [e] at hh
        simp at hh
        omega
  unfold rintF
  rw [hx]
  unfold rtailF
  rw [digits_dec u h]
  have hp := decN_pos u
  simp only [Bool.false_eq_true, if_false]
  rw [if_neg (by omega), List.drop_length]
  simp [rsufF, Res.shift]
theorem digs_of_digits : ∀ (l : List Nat) (n m : Nat), (∀ z ∈ l, 48 ≤ z ∧ z ≤ 57) → digitsF 10 n l = .ok m l.length → digsF n l = true
  | [], n, m, _, _ => rfl
  | b :: l, n, m, hz, h => by
    have hb := hz b (by simp)
    have hc : cls b = 6 := by
      have : ∀ t : Fin 128, 48 ≤ t.val ∧ t.val ≤ 57 → cls t.val = 6 := by decide +kernel
      exact this ⟨b, by omega⟩ hb
    rw [digitsF] at h
    split at h
    · cases h
    · split at h
      · cases h
      · rename_i ho
        cases hd : digitsF 10 (n * 10 + value b) l with
        | bad j => rw [hd] at h; cases h
        | ok m' j =>
          rw [hd] at h
          simp [Res.shift] at h
          rw [digsF, if_neg (fun e => e hc), if_neg ho]
          exact digs_of_digits l _ m' (fun z hz' => hz z (by simp [hz'])) (by rw [hd]; congr 1; omega)
theorem decimal_dec {u : Nat} (h : u ≤ top) : decimalF (decN u) = true := by
  have hp := decN_pos u
  have hd := digs_of_digits _ _ _ (decN_small u) (digits_dec u h)
  rw [Sc.decimalF_eq _ (fun e => by rw [e] at hp; simp at hp) (fun ⟨h1, h2⟩ => h2 (decN_head u h1))]
  exact hd
/-- what the digits of a list come to -/
def valN : Nat → List Nat → Nat
  | n, [] => n
  | n, b :: l => valN (n * 10 + (b - 48)) l
theorem decN_step {n b : Nat} (h0 : 0 < n) (hr : 48 ≤ b ∧ b ≤ 57) : decN (n * 10 + (b - 48)) = decN n ++ [b] := by
  rw [decN_more (u := n * 10 + (b - 48)) (by omega), show (n * 10 + (b - 48)) / 10 = n from by omega, show (n * 10 + (b - 48)) % 10 = b - 48 from by omega, show 48 + (b - 48) = b from by omega]
theorem cls_six {b : Nat} (hb : b < 256) (h : cls b = 6) : 48 ≤ b ∧ b ≤ 57 := by
  have : ∀ t : Fin 256, cls t.val = 6 → 48 ≤ t.val ∧ t.val ≤ 57 := by decide +kernel
  exact this ⟨b, hb⟩ h
theorem digs_cons {n b : Nat} {l : List Nat} (hb : b < 256) (h : digsF n (b :: l) = true) : (48 ≤ b ∧ b ≤ 57) ∧ n * 10 + (b - 48) ≤ top ∧ digsF (n * 10 + (b - 48)) l = true := by
  rw [digsF] at h
  by_cases hc : cls b = 6
  · rw [if_neg (fun e => e hc)] at h
    have hr := cls_six hb hc
    rw [digits_read hr] at h
    cases ho : over n 10 (b - 48) with
    | true => rw [ho, if_pos rfl] at h; cases h
    | false =>
      rw [ho, if_neg (by decide)] at h
      exact ⟨hr, over_yes (by unfold top; omega) ho, h⟩
  · rw [if_pos hc] at h; cases h
theorem digs_dec : ∀ (l : List Nat) (n : Nat), (∀ z ∈ l, z < 256) → 0 < n → n ≤ top → digsF n l = true → valN n l ≤ top ∧ decN n ++ l = decN (valN n l)
  | [], n, _, _, h1, _ => ⟨h1, by rw [List.append_nil]; rfl⟩
  | b :: l, n, hz, h0, h1, h => by
    obtain ⟨hr, hle, hd⟩ := digs_cons (hz b (by simp)) h
    have ih := digs_dec l (n * 10 + (b - 48)) (fun z hz' => hz z (by simp [hz'])) (by omega) hle hd
    rw [decN_step h0 hr, List.append_assoc] at ih
    exact ih
theorem decimal_is {l : List Nat} (hz : ∀ z ∈ l, z < 256) (h : decimalF l = true) : ∃ u, u ≤ top ∧ l = decN u := by
  unfold decimalF at h
  rw [Bool.and_eq_true, Bool.and_eq_true] at h
  obtain ⟨⟨h1, h2⟩, h3⟩ := h
  cases l with
  | nil => simp at h1
  | cons b t =>
    obtain ⟨hr, _, h3⟩ := digs_cons (hz b (by simp)) h3
    by_cases h48 : b = 48
    · have : t = [] := by
        cases t with
        | nil => rfl
        | cons c t => subst h48; simp at h2
      subst this
      exact ⟨0, Nat.zero_le _, by rw [decN_one (by omega), h48]⟩
    · rw [show 0 * 10 + (b - 48) = b - 48 from by omega] at h3
      have := digs_dec t (b - 48) (fun z hz' => hz z (by simp [hz'])) (by omega) (by unfold top; omega) h3
      refine ⟨_, this.1, ?_⟩
      rw [← this.2, decN_one (by omega), show 48 + (b - 48) = b from by omega]
      rfl
theorem digits_top {base : Nat} (hb : base ≤ 16) : ∀ (l : List Nat) (n m k : Nat), n ≤ top → digitsF base n l = .ok m k → m ≤ top
  | [], n, m, k, hn, h => by cases h; exact hn
  | b :: l, n, m, k, hn, h => by
    rw [digitsF] at h
    split at h
    · cases h; exact hn
    · rename_i hv
      split at h
      · cases h
      · rename_i ho
        cases hd : digitsF base (n * base + value b) l with
        | bad j => rw [hd] at h; cases h
        | ok m' j =>
          rw [hd] at h
          cases h
          refine digits_top hb l _ _ _ ?_ hd
          have hvb := value_le b
          have ho' : over n base (value b) = false := by simpa using ho
          unfold over at ho'
          rw [decide_eq_false_iff_not] at ho'
          have h4 : n ≤ (top - value b) / base := by omega
          have h5 : n * base ≤ top - value b := (Nat.le_div_iff_mul_le (by omega)).1 h4
          unfold top at *
          omega
theorem rint_le {l : List Nat} {m k : Nat} (h : rintF l = .ok m k) : m ≤ top := by
  have key : ∀ base, base ≤ 16 → ∀ l m k, rtailF base l = .ok m k → m ≤ top := by
    intro base hb l m k h
    unfold rtailF at h
    cases hd : digitsF base 0 l with
    | bad j => rw [hd] at h; cases h
    | ok n j =>
      rw [hd] at h
      have hn := digits_top hb l _ _ _ (by omega) hd
      simp only at h
      split at h
      · cases h
      · cases e : l.drop j with
        | nil => rw [e] at h; cases h; exact hn
        | cons b t =>
          rw [e, rsufF] at h
          split at h
          · cases h
          · rename_i hu
            split at h
            · cases h
            · rename_i ho
              have ho' : over n (unit b) 0 = false := by simpa using ho
              have hup : 0 < unit b := by unfold unit; split <;> (try split) <;> omega
              split at h
              · cases h
                unfold over at ho'
                rw [decide_eq_false_iff_not] at ho'
                have h4 : n ≤ (top - 0) / unit b := by omega
                have := (Nat.le_div_iff_mul_le hup).1 h4
                omega
              · cases h
  unfold rintF at h
  split at h
  · cases e : rtailF 16 (l.drop 2) with
    | bad j => rw [e] at h; cases h
    | ok n j => rw [e] at h; cases h; exact key 16 (by omega) _ _ _ e
  · exact key 10 (by omega) _ _ _ h
/-- a piece is right just if the document's Integer reads it and its number is written so -/
theorem piece_is {l : List Nat} (hz : ∀ z ∈ l, z < 256) : (decimalF l = true → ∃ u k, u ≤ top ∧ rintF l = .ok u k ∧ decN u = l) ∧ (decimalF l = false → ∀ u k, rintF l = .ok u k → u ≤ top ∧ decN u ≠ l) := by
  refine ⟨fun h => ?_, fun h u k hr => ?_⟩
  · obtain ⟨u, hu, rfl⟩ := decimal_is hz h
    exact ⟨u, _, hu, rint_dec hu, rfl⟩
  · refine ⟨rint_le hr, fun e => ?_⟩
    rw [← e, decimal_dec (rint_le hr)] at h
    cases h
end Sc
end Go.Proofs.YtlhecgokedckdaaDoor
/- The document's own answer to chapter 5: Number. -/
namespace Go.Proofs.YtlhecgokedckdaaDoor
open Go.RowKit Sc
/-- where the digits stand: m is left, L is written -/
def NumI (n m : Nat) (L : List Nat) : Prop := (L = [] ∧ m = n) ∨ (L ≠ [] ∧ m = 0 ∧ L = decN n) ∨ (L ≠ [] ∧ 0 < m ∧ decN m ++ L = decN n)
theorem NumI.next {n m : Nat} {L : List Nat} (h : NumI n m L) (hm : 0 < m ∨ L = []) : NumI n (m / 10) ((48 + m % 10) :: L) := by
  have key : decN m ++ L = decN n := by
    rcases h with ⟨rfl, rfl⟩ | ⟨h1, h2, h3⟩ | ⟨h1, h2, h3⟩
    · simp
    · rcases hm with hm | hm
      · omega
      · exact absurd hm h1
    · exact h3
  by_cases h10 : m < 10
  · refine .inr (.inl ⟨by simp, by omega, ?_⟩)
    rw [← key, decN_one h10, show m % 10 = m from by omega]
    rfl
  · refine .inr (.inr ⟨by simp, by omega, ?_⟩)
    rw [← key, decN_more h10]
    simp
theorem NumI.len {n m : Nat} {L : List Nat} (h : NumI n m L) (hn : n ≤ top) : L.length ≤ 20 := by
  have := decN_top hn
  rcases h with ⟨rfl, rfl⟩ | ⟨_, _, h3⟩ | ⟨_, _, h3⟩
  · simp
  · rw [h3]; exact this
  · rw [← h3] at this; simp at this; omega
theorem NumI.done {n m : Nat} {L : List Nat} (h : NumI n m L) (hm : m = 0) (hL : L ≠ []) : L = decN n := by
  rcases h with ⟨h1, _⟩ | ⟨_, _, h3⟩ | ⟨_, h2, _⟩
  · exact absurd h1 hL
  · exact h3
  · omega
theorem NumI.small {n m : Nat} {L : List Nat} (h : NumI n m L) : ∀ z ∈ L, z < 256 := by
  intro z hz
  have hs := decN_small n
  rcases h with ⟨rfl, _⟩ | ⟨_, _, h3⟩ | ⟨_, _, h3⟩
  · simp at hz
  · rw [h3] at hz; have := hs z hz; omega
  · have := hs z (by rw [← h3]; exact List.mem_append_right _ hz); omega
theorem NumI.le {m : Nat} (hm : m ≤ top) : m / 10 ≤ top := by omega
def lenOf : Value → Nat | .slice _ n _ => n | _ => 0
theorem own_first (w : World) {z base : Nat} (hb : base ≤ w.heap.size) : Own (w.alloc (.cells #[.int .u8 (z : Int)] 5)) base (.slice (some ⟨w.heap.size, 0, none⟩) 1 1) [z] := by
  exact ⟨rfl, .inr ⟨w.heap.size, 1, #[.int .u8 (z : Int)], rfl, hb, heap_alloc_new w _, Nat.le_refl _, by unfold maxLen; omega, rfl, rfl⟩⟩
/-- a number as the program holds it -/
def IsN (x : Int) (m : Nat) : Prop := x = (m : Int)
theorem IsN.div {x : Int} {m : Nat} (h : IsN x m) : IsN (x.tdiv 10) (m / 10) := by unfold IsN at *; rw [h]; rfl
theorem IsN.mod {x : Int} {m : Nat} (h : IsN x m) : x.tmod 10 = ((m % 10 : Nat) : Int) := by unfold IsN at h; rw [h]; rfl
set_option maxRecDepth 100000 in
set_option maxHeartbeats 1000000 in
theorem rNumber_any {x : Int} {n : Nat} (hx : IsN x n) (hn : n ≤ top) (w : World) :
    Calls Tryd.prog 12 #[.int .u64 x] w fun e w' => ∃ v, e = .returned v ∧ Own w' w.heap.size v (decN n) ∧ Below w.heap.size w w' := by
  have HN : Hid (n ≤ top) := hn
  have HXn : Hid (IsN x n) := hx
  clear hn hx
  go_enter Tryd.func12, Tryd.ntmps12
  go_wp2_with fail
  go_loopw [0, 3] (fun mv b wr => ∃ (y : Int) (m : Nat) (L : List Nat) (ao : Option Addr) (c : Nat), mv = .int .u64 y ∧ b = .slice ao L.length c ∧ Hid (IsN y m) ∧ Hid (m ≤ top) ∧ Hid (NumI n m L) ∧ Hid (Own wr w.heap.size b L) ∧ Hid (Below w.heap.size w wr)) (fun mv b _ => 2 * (intOf mv).toNat + if lenOf b = 0 then 1 else 0)
  case atStart => exact ⟨x, n, [], none, 0, rfl, rfl, HXn, HN, .inl ⟨rfl, rfl⟩, own_nil _ _, Below.refl _ _⟩
  case round =>
    obtain ⟨y, m, L, ao, c, rfl, rfl, HY, HM, HI, HO, HB⟩ := hrel
    have hll := HI.out.len HN.out
    obtain ⟨q, hq⟩ : ∃ q, y.tdiv 10 = q := ⟨_, rfl⟩
    have HQ : Hid (IsN q (m / 10)) := by rw [← hq]; exact HY.out.div
    have hr0 := HY.out.mod
    have hr : m % 10 < 10 := by omega
    have hsz := HB.out.size
    have HX : Hid ((0 < m ∨ L = []) → NumI n (m / 10) ((48 + m % 10) :: L)) := fun hm => HI.out.next hm
    have HT : Hid (m / 10 ≤ top) := NumI.le HM.out
    have HSl : Hid (Sl wr (.slice ao L.length c) L) := HO.out.sl HI.out.small
    have q0 : 0 ≤ q := by have := HQ.out; unfold IsN at this; omega
    have q1 : q < 18446744073709551616 := by have := HQ.out; have := HT.out; unfold IsN top at *; omega
    generalize hrr : m % 10 = r at *
    clear hrr
    have HOF : Hid (Own (wr.alloc (.cells #[.int .u8 (48 + (r : Int))] 5)) w.heap.size (.slice (some ⟨wr.heap.size, 0, none⟩) 1 1) [48 + r]) := by
      have := own_first (z := 48 + r) wr hsz
      rw [show ((48 + r : Nat) : Int) = 48 + (r : Int) from by omega] at this
      exact this
    have HSA : Hid (∀ X, Sl (wr.alloc X) (.slice ao L.length c) L) := fun X => HSl.out.below ((Below.refl _ _).alloc (Nat.le_refl _) _)
    have fin : ∀ v2 w2, SpPost wr w.heap.size (.slice (some ⟨wr.heap.size, 0, none⟩) 1 1) [48 + r] L v2 w2 → (0 < m ∨ L = []) → (0 < m → m / 10 < m) → (∃ (y : Int) (m : Nat) (L : List Nat) (ao : Option Addr) (c : Nat), Value.int .u64 q = .int .u64 y ∧ v2 = .slice ao L.length c ∧ Hid (IsN y m) ∧ Hid (m ≤ top) ∧ Hid (NumI n m L) ∧ Hid (Own w2 w.heap.size v2 L) ∧ Hid (Below w.heap.size w w2)) ∧ (2 * (intOf (.int .u64 q)).toNat + if lenOf v2 = 0 then 1 else 0) < 2 * (intOf (.int .u64 y)).toNat + if lenOf (.slice ao L.length c) = 0 then 1 else 0 := by
      intro v2 w2 hp hm hlt
      have ho : Own w2 w.heap.size v2 ((48 + r) :: L) := hp.1
      obtain ⟨g, cp, rfl, _⟩ := ho.form (by simp)
      refine ⟨⟨q, m / 10, (48 + r) :: L, _, cp, rfl, rfl, HQ, HT, HX.out hm, ho, HB.out.trans (hp.2.1.below hsz (fun j _ e => by cases e; exact hsz))⟩, ?_⟩
      have e1 : (intOf (.int .u64 q)).toNat = m / 10 := by have := HQ.out; unfold IsN at this; simp [intOf]; omega
      have e2 : (intOf (.int .u64 y)).toNat = m := by have := HY.out; unfold IsN at this; simp [intOf]; omega
      rw [e1, e2]
      rw [if_neg (show ¬ lenOf (Value.slice (some ⟨g, 0, none⟩) ((48 + r) :: L).length cp) = 0 from by simp [lenOf])]
      rcases hm with hm | rfl
      · have := hlt hm; split <;> omega
      · rw [if_pos (show lenOf (Value.slice ao ([] : List Nat).length c) = 0 from rfl)]
        omega
    have HF := Lib.hid fin
    clear fin
    by_cases hm : 0 < m
    · have i0 : 0 < y := by have := HY.out; unfold IsN at this; omega
      go_wp2_with (at_builtin; refine wpList_append_sl (v := .slice (some ⟨wr.heap.size, 0, none⟩) 1 1) (.tmp 15) (.tmp 16) (by rfl) rfl rfl HOF.out rfl (HSA.out _) (by simp only [List.length_cons, List.length_nil]; omega) (by simp; omega) ?_; intro v2 w2 h2 g2 l2; have HP : Hid (SpPost wr w.heap.size (.slice (some ⟨wr.heap.size, 0, none⟩) 1 1) [48 + r] L v2 w2) := SpPost.mk h2 g2 l2; clear h2 g2 l2)
      exact HF.out _ _ HP.out (.inl hm) (fun _ => by omega)
    · have i0 : ¬ 0 < y := by have := HY.out; unfold IsN at this; omega
      by_cases hL : L = []
      · have i1 : ((L.length : Int) == 0) = true := by rw [hL]; rfl
        have HLn : Hid (L = []) := hL
        clear hL
        go_wp2_with (at_builtin; refine wpList_append_sl (v := .slice (some ⟨wr.heap.size, 0, none⟩) 1 1) (.tmp 15) (.tmp 16) (by rfl) rfl rfl HOF.out rfl (HSA.out _) (by simp only [List.length_cons, List.length_nil]; omega) (by simp; omega) ?_; intro v2 w2 h2 g2 l2; have HP : Hid (SpPost wr w.heap.size (.slice (some ⟨wr.heap.size, 0, none⟩) 1 1) [48 + r] L v2 w2) := SpPost.mk h2 g2 l2; clear h2 g2 l2)
        exact HF.out _ _ HP.out (.inr HLn.out) (fun h => absurd h hm)
      · have i1 : ((L.length : Int) == 0) = false := beq_eq_false_iff_ne.2 (fun e => hL (List.eq_nil_of_length_eq_zero (by omega)))
        have HE : Hid (L = decN n) := HI.out.done (by omega) hL
        go_wp2_with fail
        go_ret
        rw [← HE.out]
        exact ⟨_, rfl, HO.out, HB.out⟩
end Go.Proofs.YtlhecgokedckdaaDoor
