/- Plain: integers of a run of word bytes. -/
import Derived.Test.YtlhecgokedckdaaDoorScLen
namespace Go.Proofs.YtlhecgokedckdaaDoor
namespace Sc
theorem word_value {b : Nat} (h : isW b = false) : value b = 16 ∧ unit b = 1 := by
  by_cases hb : b < 128
  · have : ∀ t : Fin 128, isW t.val = false → value t.val = 16 ∧ unit t.val = 1 := by decide +kernel
    exact this ⟨b, hb⟩ h
  · unfold value unit
    refine ⟨?_, ?_⟩
    · rw [if_neg (by omega), if_neg (by omega), if_neg (by omega)]
    · rw [if_neg (by omega), if_neg (by omega)]
theorem take_run_cons (b : Nat) (l : List Nat) : (b :: l).take (runN (b :: l)) = if isW b then b :: l.take (runN l) else [] := by
  rw [runN_cons]
  split <;> rfl
theorem head_run (l : List Nat) : isW ((l.take (runN l)).headD 0) = isW (l.headD 0) := by
  cases l with
  | nil => rfl
  | cons b t =>
    rw [take_run_cons]
    cases h : isW b with
    | true => simp [h]
    | false => simp [h]; decide
theorem digits_run {base : Nat} (hb : base ≤ 16) : ∀ (l : List Nat) (n : Nat), digitsF base n (l.take (runN l)) = digitsF base n l
  | [], _ => rfl
  | b :: l, n => by
    rw [take_run_cons]
    cases h : isW b with
    | true =>
      rw [if_pos rfl]
      unfold digitsF
      rw [digits_run hb l]
    | false =>
      rw [if_neg (by decide)]
      have hv := (word_value h).1
      unfold digitsF
      rw [if_pos (by omega)]
theorem suffix_run (n : Nat) (l : List Nat) : suffixF n (l.take (runN l)) = suffixF n l := by
  cases l with
  | nil => rfl
  | cons b t =>
    rw [take_run_cons]
    cases h : isW b with
    | true =>
      rw [if_pos rfl]
      have hh := head_run t
      unfold suffixF
      simp only [List.headD_cons, List.drop_succ_cons, List.drop_zero, hh]
      rfl
    | false =>
      rw [if_neg (by decide)]
      unfold suffixF
      simp [h, (word_value h).2, show isW 0 = false from by decide, show unit 0 = 1 from by decide]
theorem digits_fit {base : Nat} (hb : base ≤ 16) : ∀ (l : List Nat) (n m k : Nat), digitsF base n l = .ok m k → k ≤ runN l
  | [], n, m, k, h => by cases h; exact Nat.zero_le _
  | b :: l, n, m, k, h => by
    unfold digitsF at h
    split at h
    · cases h; exact Nat.zero_le _
    · rename_i hv
      split at h
      · cases h
      · cases hd : digitsF base (n * base + value b) l with
        | bad j => rw [hd] at h; cases h
        | ok m' j =>
          rw [hd] at h
          have := digits_fit hb l _ _ _ hd
          cases h
          have hw : isW b = true := by
            cases hw : isW b with
            | true => rfl
            | false => have := (word_value hw).1; omega
          rw [runN_cons, if_pos hw]
          omega
theorem run_drop : ∀ (l : List Nat) (k : Nat), k ≤ runN l → (l.take (runN l)).drop k = (l.drop k).take (runN (l.drop k))
  | l, 0, _ => rfl
  | [], k + 1, h => by simp [runN] at h
  | b :: l, k + 1, h => by
    rw [runN_cons] at h
    cases hw : isW b with
    | true =>
      rw [hw, if_pos rfl] at h
      rw [take_run_cons, if_pos hw, List.drop_succ_cons, List.drop_succ_cons]
      exact run_drop l k (by omega)
    | false => rw [hw, if_neg (by decide)] at h; omega
theorem tail_run {base : Nat} (hb : base ≤ 16) (l : List Nat) : tailF base (l.take (runN l)) = tailF base l := by
  unfold tailF
  rw [digits_run hb]
  cases h : digitsF base 0 l with
  | bad k => rfl
  | ok n k =>
    simp only
    rw [run_drop l k (digits_fit hb l _ _ _ h), suffix_run]
theorem isHex_run (l : List Nat) : isHex (l.take (runN l)) = isHex l := by
  unfold isHex
  rw [Bool.eq_iff_iff, decide_eq_true_iff, decide_eq_true_iff]
  cases l with
  | nil => simp
  | cons a l =>
    cases l with
    | nil => rw [take_run_cons]; split <;> simp [runN]
    | cons b l =>
      rw [take_run_cons, take_run_cons]
      constructor
      · intro h
        split at h
        · split at h
          · simpa using h
          · simp at h
        · simp at h
      · intro h
        simp at h
        obtain ⟨rfl, rfl⟩ := h
        rw [if_pos (by decide), if_pos (by decide)]
        rfl
theorem run_two {l : List Nat} (h : isHex l = true) : 2 ≤ runN l := by
  unfold isHex at h
  rw [decide_eq_true_iff] at h
  match l with
  | [] => simp at h
  | [a] => simp at h
  | a :: b :: l =>
    simp at h
    obtain ⟨rfl, rfl⟩ := h
    rw [runN_cons, runN_cons, if_pos (by decide), if_pos (by decide)]
    omega
theorem value_run (l : List Nat) : (16 ≤ value ((l.take (runN l)).headD 0)) = (16 ≤ value (l.headD 0)) := by
  cases l with
  | nil => rfl
  | cons b t =>
    rw [take_run_cons]
    cases h : isW b with
    | true => rfl
    | false =>
      have := (word_value h).1
      simp [this, value_zero]
theorem integer_run (l : List Nat) : integerF (l.take (runN l)) = integerF l := by
  unfold integerF
  rw [isHex_run]
  cases h : isHex l with
  | false => simp [tail_run (by omega : 10 ≤ 16)]
  | true =>
    have h2 := run_two h
    rw [if_pos rfl, if_pos rfl, run_drop l 2 h2, tail_run (by omega : 16 ≤ 16)]
    simp only [value_run]
/-- what the document's Integer reckons behind the digits -/
def rsufF (n : Nat) : List Nat → Res Nat
  | [] => .ok n 0
  | b :: t => if unit b = 1 then .bad 0 else if over n (unit b) 0 then .bad 0 else if t.isEmpty then .ok (n * unit b) 1 else .bad 1
def rtailF (base : Nat) (l : List Nat) : Res Nat := match digitsF base 0 l with
  | .bad k => .bad k
  | .ok n k => if k = 0 then .bad 0 else (rsufF n (l.drop k)).shift k
/-- what the document's Integer answers -/
def rintF (l : List Nat) : Res Nat := if isHex l then (rtailF 16 (l.drop 2)).shift 2 else rtailF 10 l
theorem rsuf_eq (n : Nat) {l : List Nat} (h : ∀ b ∈ l, isW b = true) : rsufF n l = suffixF n l := by
  cases l with
  | nil => rfl
  | cons b t =>
    unfold rsufF suffixF
    have hb := h b (by simp)
    simp only [List.headD_cons, List.drop_succ_cons, List.drop_zero, hb]
    cases t with
    | nil => simp [show isW 0 = false from by decide]
    | cons c t => simp [h c (by simp)]
theorem digits_some {base : Nat} {l : List Nat} {m k : Nat} (h : digitsF base 0 l = .ok m k) (hv : value (l.headD 0) < base) (hb : base ≤ 16) : k ≠ 0 := by
  cases l with
  | nil => rw [List.headD_nil, value_zero] at hv; omega
  | cons b t =>
    have hv' : value b < base := hv
    unfold digitsF at h
    rw [if_neg (by omega)] at h
    split at h
    · cases h
    · cases hd : digitsF base (0 * base + value b) t with
      | bad j => rw [hd] at h; cases h
      | ok m' j => rw [hd] at h; cases h; omega
theorem rtail_eq {base : Nat} {l : List Nat} (h : ∀ b ∈ l, isW b = true) (hv : value (l.headD 0) < base) (hb : base ≤ 16) : rtailF base l = tailF base l := by
  unfold rtailF tailF
  cases hd : digitsF base 0 l with
  | bad k => rfl
  | ok n k =>
    simp only
    rw [if_neg (digits_some hd hv hb), rsuf_eq n (fun b hb => h b (List.mem_of_mem_drop hb))]
theorem rint_eq {l : List Nat} (h : ∀ b ∈ l, isW b = true) (hd : value (l.headD 0) < 10) : rintF l = integerF l := by
  unfold rintF integerF
  cases hx : isHex l with
  | false => simp [rtail_eq h hd (by omega : 10 ≤ 16)]
  | true =>
    rw [if_pos rfl, if_pos rfl]
    by_cases hv : 16 ≤ value ((l.drop 2).headD 0)
    · rw [if_pos hv]
      have : digitsF 16 0 (l.drop 2) = .ok 0 0 := by
        cases e : l.drop 2 with
        | nil => rfl
        | cons b t =>
          rw [e] at hv
          have hv' : 16 ≤ value b := hv
          unfold digitsF
          rw [if_pos hv']
      unfold rtailF
      rw [this]
      rfl
    · rw [if_neg hv, rtail_eq (fun b hb => h b (List.mem_of_mem_drop hb)) (by omega) (by omega)]
theorem run_words : ∀ (l : List Nat), ∀ b ∈ l.take (runN l), isW b = true
  | [], b, h => by simp at h
  | c :: l, b, h => by
    rw [take_run_cons] at h
    split at h
    · rcases List.mem_cons.1 h with rfl | h
      · assumption
      · exact run_words l b h
    · simp at h
/-- the document's Integer at a run is the integer ahead -/
theorem rint_run {l : List Nat} (hd : value (l.headD 0) < 10) : rintF (l.take (runN l)) = integerF l := by
  rw [rint_eq (run_words l), integer_run]
  cases l with
  | nil => exact hd
  | cons b t =>
    rw [take_run_cons]
    cases h : isW b with
    | true => exact hd
    | false => have := (word_value h).1; have hd' : value b < 10 := hd; omega
end Sc
end Go.Proofs.YtlhecgokedckdaaDoor
