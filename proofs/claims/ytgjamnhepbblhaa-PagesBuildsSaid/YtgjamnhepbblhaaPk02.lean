import Derived.Test.YtgjamnhepbblhaaPk01
import Derived.Test.YtgjamnhepbblhaaProg
import Derived.WalkKit
import Derived.WalkSpells
import Derived.WalkLawsBesides
import Derived.Deep.QuietTactic
import Derived.BigQuiet
import Derived.Below
/- walk's Entry and Make, and the document's: what they answer. Own work. -/
namespace Go.Proofs.Ytgjamnhepbblhaa
open Go.RowKit
namespace Wk
theorem bAnd {e : Nat} (he : e < 18446744073709551616) (m : Nat) (hm : m < 18446744073709551616) {r : Nat} (h : e &&& m = r) : bits .and .u64 (e : Int) (m : Int) = (r : Int) := by rw [u64_and_nat e m he hm, h]
theorem bNot {e : Nat} (he : e < 18446744073709551616) : (bits .andNot .u64 (e : Int) 4294963215 == 0) = bare e := by
  have h := u64_andNot_nat e 4294963215 he (by decide)
  have h2 := andN e he
  have h3 : bits .andNot .u64 (e : Int) 4294963215 = ((e &&& 18446744069414588400 : Nat) : Int) := h
  rw [h3, bare, Bool.eq_iff_iff]
  simp only [beq_iff_eq]
  rw [← h2]
  omega
theorem bEq {e : Nat} (he : e < 18446744073709551616) (m : Nat) (hm : m < 18446744073709551616) {b : Bool} (h : (e &&& m == 0) = b) : (bits .and .u64 (e : Int) (m : Int) == 0) = b := by
  rw [u64_and_nat e m he hm, ← h, Bool.eq_iff_iff]
  simp only [beq_iff_eq]
  omega
theorem z2 (e : Nat) : (e &&& 2 == 0) = !bit1 e := by rw [and2, bit1]; rcases Nat.mod_two_eq_zero_or_one (e / 2) with h | h <;> simp [h]
theorem z4 (e : Nat) : (e &&& 4 == 0) = !bit2 e := by rw [and4, bit2]; rcases Nat.mod_two_eq_zero_or_one (e / 4) with h | h <;> simp [h]
theorem z8 (e : Nat) : (e &&& 8 == 0) = !bit3 e := by rw [and8, bit3]; rcases Nat.mod_two_eq_zero_or_one (e / 8) with h | h <;> simp [h]
theorem z14 (e : Nat) : (e &&& 14 == 0) = (e / 2 % 8 == 0) := by rw [and14, Bool.eq_iff_iff]; simp only [beq_iff_eq]; omega
theorem z6 (e : Nat) : (e &&& 6 == 0) = (e / 2 % 4 == 0) := by rw [and6, Bool.eq_iff_iff]; simp only [beq_iff_eq]; omega
theorem z1 (e : Nat) : (e &&& 1 == 0) = (e % 2 == 0) := by rw [and1]
end Wk
def EntV (x : Wk.Ent) : Value := .agg #[.int .u64 (x.1 : Int), .bool x.2.1, .bool x.2.2.1, .bool x.2.2.2.1, .bool x.2.2.2.2]
open Wk
/-- an entry in a block of its own -/
def BoxE (w : World) (g : Nat) (x : Ent) : Prop := w.heap[g]? = some (.cells #[.int .u64 (x.1 : Int), .bool x.2.1, .bool x.2.2.1, .bool x.2.2.2.1, .bool x.2.2.2.2] 91 (0, 0))
theorem BoxE.lt {w : World} {g : Nat} {x : Ent} (h : BoxE w g x) : g < w.heap.size := (Array.getElem?_eq_some_iff.1 h).1
theorem BoxE.below {w w' : World} {g : Nat} {x : Ent} (h : BoxE w g x) (hb : Below w.heap.size w w') : BoxE w' g x := (hb.block g h.lt).trans h
theorem BoxE.new (w : World) (x : Ent) : BoxE (w.alloc (.cells #[.int .u64 (x.1 : Int), .bool x.2.1, .bool x.2.2.1, .bool x.2.2.2.1, .bool x.2.2.2.2] 91)) w.heap.size x := by
  exact heap_alloc_new w _
theorem BoxE.cells {w : World} {g : Nat} {x : Ent} (h : BoxE w g x) : w.cell? ⟨g, 0, none⟩ = some (.int .u64 (x.1 : Int)) ∧ w.cell? ⟨g, 1, none⟩ = some (.bool x.2.1) ∧ w.cell? ⟨g, 2, none⟩ = some (.bool x.2.2.1) ∧ w.cell? ⟨g, 3, none⟩ = some (.bool x.2.2.2.1) ∧ w.cell? ⟨g, 4, none⟩ = some (.bool x.2.2.2.2) := by
  have h' : w.heap[g]? = _ := h
  refine ⟨?_, ?_, ?_, ?_, ?_⟩ <;> simp [World.cell?, h']
def EntPost (w : World) (r : Ent × Int) (x : Ending) (w' : World) : Prop := x = .returned (.tuple #[EntV r.1, .int .i64 r.2]) ∧ Below w.heap.size w w'
theorem entEnd {w : World} {r : Ent} {k : Int} {tm : Array Value} (h4 : tm[4]? = some (.pointer (some ⟨w.heap.size, 0, none⟩))) (h5 : tm[5]? = some (.int .i64 k)) :
    bodyPost Try.prog Try.f55 (EntPost w (r, k)) Exit.ret { tmps := tm, defers := [] } (w.alloc (.cells #[.int .u64 (r.1 : Int), .bool r.2.1, .bool r.2.2.1, .bool r.2.2.2.1, .bool r.2.2.2.2] 91)) := by
  refine bodyPost_ret (v := .tuple #[EntV r, .int .i64 k]) (by simp [results, Try.results55, go_sem, EntV, h4, h5]) rfl ?_
  exact ⟨rfl, (Below.refl _ _).alloc (Nat.le_refl _) _⟩
set_option maxHeartbeats 2000000 in
theorem sound_any {e : Nat} (he : e < 18446744073709551616) {l : Int} (hl : l = 0 ∨ l = 1 ∨ l = 2) (w : World) :
    Calls Try.prog 56 #[.int .u64 (e : Int), .int .i64 l] w fun x w' => x = .returned (.bool (Wk.sound e l)) ∧ w' = w := by
  have hn : (bits .andNot .u64 (e : Int) 4294963215 != 0) = !bare e := by rw [← bNot he]; rfl
  have h14 : (bits .and .u64 (e : Int) 14 == 0) = (e / 2 % 8 == 0) := bEq he 14 (by decide) (z14 e)
  have h8 : (bits .and .u64 (e : Int) 8 == 0) = !bit3 e := bEq he 8 (by decide) (z8 e)
  have h6 : (bits .and .u64 (e : Int) 6 == 0) = (e / 2 % 4 == 0) := bEq he 6 (by decide) (z6 e)
  have hf : bits .and .u64 (e : Int) 4294963200 = (fr e : Int) := bAnd he 4294963200 (by decide) (andF e)
  have hq : (((fr e : Nat) : Int) % 2097152 == 0) = (fr e % 2097152 == 0) := by
    rw [Bool.eq_iff_iff]; simp only [beq_iff_eq]; omega
  obtain ⟨F, hF⟩ : ∃ F : Int, F = (fr e : Int) := ⟨_, rfl⟩
  have HR : Hid (∀ l, Wk.sound e l = (bare e && (if l = 0 then e / 2 % 8 == 0 else if l = 2 then !bit3 e else if bit3 e then fr e % 2097152 == 0 else e / 2 % 4 == 0))) := fun l => rfl
  rw [← hF] at hf hq
  have hF0 : 0 ≤ F := by omega
  clear hF
  generalize bare e = b at *
  generalize (e / 2 % 8 == 0) = c14 at *
  generalize (e / 2 % 4 == 0) = c6 at *
  generalize bit3 e = c8 at *
  generalize (fr e % 2097152 == 0) = cf at *
  cases b with
  | false =>
    rw [HR.out, Bool.false_and]
    simp only [Bool.not_false] at hn
    go_enter Try.func56, Try.ntmps56
    go_wp2
    go_ret
    exact ⟨rfl, rfl⟩
  | true =>
    simp only [Bool.not_true] at hn
    rcases hl with rfl | rfl | rfl
    · rw [HR.out]
      go_enter Try.func56, Try.ntmps56
      go_wp2
      go_ret
      exact ⟨by simp, rfl⟩
    · rw [HR.out]
      cases c8 with
      | false =>
        simp only [Bool.not_false] at h8
        go_enter Try.func56, Try.ntmps56
        go_wp2
        go_ret
        exact ⟨by simp, rfl⟩
      | true =>
        simp only [Bool.not_true] at h8
        go_enter Try.func56, Try.ntmps56
        go_wp2
        go_ret
        exact ⟨by simp, rfl⟩
    · rw [HR.out]
      go_enter Try.func56, Try.ntmps56
      go_wp2
      go_ret
      exact ⟨by simp, rfl⟩
set_option maxHeartbeats 2000000 in
theorem bit_any (s : Bool) (b : Nat) (w : World) :
    Calls Try.prog 54 #[.bool s, .int .u64 (b : Int)] w fun x w' => x = .returned (.int .u64 ((nbit s b : Nat) : Int)) ∧ w' = w := by
  cases s <;>
  · go_enter Try.func54, Try.ntmps54
    go_wp2
    go_ret
    exact ⟨rfl, rfl⟩
set_option maxHeartbeats 2000000 in
theorem entry_any {e : Nat} (he : e < 18446744073709551616) (l : Int) (w : World) :
    Calls Try.prog 55 #[.int .u64 (e : Int), .int .i64 l] w (EntPost w (entB e l)) := by
  by_cases hl : l < 0 ∨ 2 < l
  · have HR : Hid (entB e l = (no, 1)) := if_pos hl
    rcases hl with hl | hl
    · go_enter Try.func55, Try.ntmps55
      go_wp2
      rw [HR.out]
      exact entEnd (r := no) rfl rfl
    · go_enter Try.func55, Try.ntmps55
      go_wp2
      rw [HR.out]
      exact entEnd (r := no) rfl rfl
  · have HS : Hid (∀ W, Calls Try.prog 56 #[.int .u64 (e : Int), .int .i64 l] W fun x w' => x = .returned (.bool (Wk.sound e l)) ∧ w' = W) := fun W => sound_any he (by omega) W
    have hl2 : l = 0 ∨ l = 1 ∨ l = 2 := by omega
    have h1 : bits .and .u64 (e : Int) 1 = ((e % 2 : Nat) : Int) := bAnd he 1 (by decide) (and1 e)
    by_cases ho : e % 2 = 0
    · have HR : Hid (entB e l = (no, 41)) := by show entB e l = _; rw [entB, if_neg hl, if_pos ho]
      rw [ho] at h1
      rcases hl2 with rfl | rfl | rfl <;>
      · go_enter Try.func55, Try.ntmps55
        go_wp2
        rw [HR.out]
        exact entEnd (r := no) rfl rfl
    · have ho1 : e % 2 = 1 := by omega
      rw [ho1] at h1
      have HR : Hid (entB e l = if Wk.sound e l then (says e l, 0) else (no, 42)) := by show entB e l = _; rw [entB, if_neg hl, if_neg ho]
      have hf : bits .and .u64 (e : Int) 4294963200 = (fr e : Int) := bAnd he 4294963200 (by decide) (andF e)
      have h8 : (bits .and .u64 (e : Int) 8 == 0) = !bit3 e := bEq he 8 (by decide) (z8 e)
      have h8n : (bits .and .u64 (e : Int) 8 != 0) = bit3 e := by show (!(_ == _)) = _; rw [h8, Bool.not_not]
      have h2n : (bits .and .u64 (e : Int) 2 != 0) = bit1 e := by
        have h := bEq he 2 (by decide) (z2 e)
        exact (congrArg (!·) h).trans (Bool.not_not _)
      have h4n : (bits .and .u64 (e : Int) 4 != 0) = bit2 e := by
        have h := bEq he 4 (by decide) (z4 e)
        exact (congrArg (!·) h).trans (Bool.not_not _)
      generalize Wk.sound e l = s at *
      cases s with
      | false =>
        rcases hl2 with rfl | rfl | rfl <;>
        · go_enter Try.func55, Try.ntmps55
          go_wp2_with (go_at_call 56; refine (HS.out _).mono ?_; rintro x w' ⟨rfl, rfl⟩)
          rw [HR.out]
          exact entEnd (r := no) rfl rfl
      | true =>
        obtain ⟨F, hF⟩ : ∃ F : Nat, F = fr e := ⟨_, rfl⟩
        have HR2 : Hid (entB e l = ((F, l == 0 || (l == 1 && !bit3 e), bit3 e, bit1 e, bit2 e), 0)) := by show entB e l = _; rw [HR.out, if_pos rfl, hF]; rfl
        rw [← hF] at hf
        clear hF HR
        generalize bit3 e = c8 at *
        generalize bit1 e = c2 at *
        generalize bit2 e = c4 at *
        rcases hl2 with rfl | rfl | rfl <;> cases c8 <;>
        · simp only [Bool.not_false, Bool.not_true] at h8
          go_enter Try.func55, Try.ntmps55
          go_wp2_with (go_at_call 56; refine (HS.out _).mono ?_; rintro x w' ⟨rfl, rfl⟩)
          rw [HR2.out]
          exact entEnd (r := (F, _, _, _, _)) rfl rfl
end Go.Proofs.Ytgjamnhepbblhaa
