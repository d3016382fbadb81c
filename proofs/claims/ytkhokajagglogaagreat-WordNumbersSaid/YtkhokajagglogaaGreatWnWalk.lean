/- WordNumbers, walked. Own work. -/
import Derived.Test.YtkhokajagglogaaGreatWnNumsU8
import Derived.Test.YtkhokajagglogaaGreatWnNumsU16
import Derived.Test.YtkhokajagglogaaGreatWnNumsU32
import Derived.Test.YtkhokajagglogaaGreatWnNumsU64
import Derived.Test.YtkhokajagglogaaGreatWnNumsTi
import Derived.Test.YtkhokajagglogaaGreatWnNumsSm
import Derived.Test.YtkhokajagglogaaGreatWnNumsPn
import Derived.Test.YtkhokajagglogaaGreatWnNumsGr
import Derived.Test.YtkhokajagglogaaGreatWnToU8
import Derived.Test.YtkhokajagglogaaGreatWnToU16
import Derived.Test.YtkhokajagglogaaGreatWnToU32
import Derived.Test.YtkhokajagglogaaGreatWnToU64
import Derived.Test.YtkhokajagglogaaGreatWnToGr
import Derived.Test.YtkhokajagglogaaGreatWnToTi
namespace Go.Proofs.YtkhokajagglogaaGreat
open Go.RowKit Go.Shelf
set_option maxHeartbeats 1000000 in
theorem beyond1 (a : Nat) (g cap : Nat) (w : World) (ha : a ≤ maxLen) (h0 : w.cell? ⟨g, 0, none⟩ = some (.int .i64 a)) :
    Calls Tryz.prog 4 #[.slice (some ⟨g, 0, none⟩) 1 cap] w fun e w' => e = .returned (.bool (decide (2147483647 < a))) ∧ w' = w := by
  unfold maxLen at ha
  have HC0 : Hid (w.cell? ⟨g, 0, none⟩ = some (.int .i64 a)) := h0
  clear h0
  go_enter Tryz.func4, Tryz.ntmps4
  go_wp2
  go_loop [3, 4] (fun l i => (i = .int .i64 0 ∧ l = .int .i64 2147483647) ∨ (a ≤ 2147483647 ∧ i = .int .i64 1 ∧ ∃ x, l = .int .i64 x)) (fun _ i => 1 - (intOf i).toNat)
  case atStart => exact .inl ⟨rfl, rfl⟩
  case round =>
    rcases hrel with ⟨rfl, rfl⟩ | ⟨hle, rfl, x, rfl⟩
    · have h0 := HC0.out
      by_cases hle : a ≤ 2147483647
      · go_wp2
        go_round
        case rel => exact .inr ⟨hle, rfl, _, rfl⟩
        case measure => simp [intOf]
      · go_wp2
        go_ret
        exact ⟨by rw [decide_eq_true (by omega : 2147483647 < a)]; rfl, rfl⟩
    · go_wp2
      go_ret
      exact ⟨by rw [decide_eq_false (by omega : ¬ 2147483647 < a)]; rfl, rfl⟩
theorem Nb.start {w w1 : World} {kb : Nat} (hb : Below w.heap.size w w1) (hk : w.heap.size ≤ kb) (h : w1.heap[kb]? = some (.cells #[.slice none 0 0, .slice none 0 0, .int .i64 0, .bool false] 28 (0, 0))) : Nb w kb (fun _ => False) w1 :=
  ⟨hb, hk, ⟨_, _, _, [], bk_new h, by simp, fun _ h => by simp [blks] at h⟩⟩
set_option maxRecDepth 100000 in
set_option maxHeartbeats 4000000 in
theorem wordNumbers_walk {w : World} {v : Value} {a b : Nat} {p : List Nat} (ha : a ≤ 18446744073709551615) (hb : b ≤ 18446744073709551615) (hv : Sl w v p) :
    Calls Tryz.prog 3 #[.int .u64 (a : Int), .int .u64 (b : Int), v] w fun e w' => e = .returned (.bool true) ∧ Below w.heap.size w w' := by
  have HV : Hid (Sl w v p) := hv
  obtain ⟨ao, cap, rfl, hc1, hc2, _⟩ := id hv
  have hBe := beyond1 p.length w.heap.size 1 (w.alloc (.cells #[.int .i64 (p.length : Int)] 3)) (by omega) (by rw [cell_of_row _ _ _ _ _ _ (show (w.alloc (.cells #[.int .i64 (p.length : Int)] 3)).heap[w.heap.size]? = some (.cells #[.int .i64 (p.length : Int)] 3 (0, 0)) from Array.getElem?_push_size)]; rfl)
  have HBe := Lib.hid hBe
  unfold maxLen at hc2
  clear hBe hv
  go_enter Tryz.func3, Tryz.ntmps3
  go_wp2_with fail
  refine HBe.out.mono ?_
  rintro e w1 ⟨rfl, hw⟩
  subst hw
  by_cases hbig : 2147483647 < p.length
  · rw [decide_eq_true hbig]
    go_wp2_with fail
    go_ret
    exact ⟨rfl, (Below.refl _ _).alloc (Nat.le_refl _) _⟩
  · rw [decide_eq_false hbig]
    have hp : p.length ≤ 2147483647 := by omega
    clear HBe hbig
    have NU8 : Hid (∀ W kb, Nb w kb (fun _ => False) W → Calls Tryz.prog 5 #[.int .i64 1, .int .u8 ((a : Int) % 256), .int .u8 ((b : Int) % 256), .slice ao p.length cap, .pointer (some ⟨kb, 0, none⟩)] W fun e w' => e = .returned (.bool true) ∧ Nb w kb (fun _ => False) w') := fun W kb h => by
      have := U8.numbers_any (a := a % 256) (b := b % 256) (by omega) (by omega) hp HV.out h
      rwa [show ((a % 256 : Nat) : Int) = (a : Int) % 256 from by omega, show ((b % 256 : Nat) : Int) = (b : Int) % 256 from by omega] at this
    have NU16 : Hid (∀ W kb, Nb w kb (fun _ => False) W → Calls Tryz.prog 6 #[.int .i64 2, .int .u16 ((a : Int) % 65536), .int .u16 ((b : Int) % 65536), .slice ao p.length cap, .pointer (some ⟨kb, 0, none⟩)] W fun e w' => e = .returned (.bool true) ∧ Nb w kb (fun _ => False) w') := fun W kb h => by
      have := U16.numbers_any (a := a % 65536) (b := b % 65536) (by omega) (by omega) hp HV.out h
      rwa [show ((a % 65536 : Nat) : Int) = (a : Int) % 65536 from by omega, show ((b % 65536 : Nat) : Int) = (b : Int) % 65536 from by omega] at this
    have NU32 : Hid (∀ W kb, Nb w kb (fun _ => False) W → Calls Tryz.prog 7 #[.int .i64 4, .int .u32 ((a : Int) % 4294967296), .int .u32 ((b : Int) % 4294967296), .slice ao p.length cap, .pointer (some ⟨kb, 0, none⟩)] W fun e w' => e = .returned (.bool true) ∧ Nb w kb (fun _ => False) w') := fun W kb h => by
      have := U32.numbers_any (a := a % 4294967296) (b := b % 4294967296) (by omega) (by omega) hp HV.out h
      rwa [show ((a % 4294967296 : Nat) : Int) = (a : Int) % 4294967296 from by omega, show ((b % 4294967296 : Nat) : Int) = (b : Int) % 4294967296 from by omega] at this
    have NU64 : Hid (∀ W kb, Nb w kb (fun _ => False) W → Calls Tryz.prog 8 #[.int .i64 8, .int .u64 (a : Int), .int .u64 (b : Int), .slice ao p.length cap, .pointer (some ⟨kb, 0, none⟩)] W fun e w' => e = .returned (.bool true) ∧ Nb w kb (fun _ => False) w') := fun W kb h => by
      exact U64.numbers_any ha hb hp HV.out h
    have NTi : Hid (∀ W kb, Nb w kb (fun _ => False) W → Calls Tryz.prog 9 #[.int .i64 1, .int .u8 ((a : Int) % 256), .int .u8 ((b : Int) % 256), .slice ao p.length cap, .pointer (some ⟨kb, 0, none⟩)] W fun e w' => e = .returned (.bool true) ∧ Nb w kb (fun _ => False) w') := fun W kb h => by
      have := Ti.numbers_any (a := a % 256) (b := b % 256) (by omega) (by omega) hp HV.out h
      rwa [show ((a % 256 : Nat) : Int) = (a : Int) % 256 from by omega, show ((b % 256 : Nat) : Int) = (b : Int) % 256 from by omega] at this
    have NSm : Hid (∀ W kb, Nb w kb (fun _ => False) W → Calls Tryz.prog 10 #[.int .i64 2, .int .u16 ((a : Int) % 65536), .int .u16 ((b : Int) % 65536), .slice ao p.length cap, .pointer (some ⟨kb, 0, none⟩)] W fun e w' => e = .returned (.bool true) ∧ Nb w kb (fun _ => False) w') := fun W kb h => by
      have := Sm.numbers_any (a := a % 65536) (b := b % 65536) (by omega) (by omega) hp HV.out h
      rwa [show ((a % 65536 : Nat) : Int) = (a : Int) % 65536 from by omega, show ((b % 65536 : Nat) : Int) = (b : Int) % 65536 from by omega] at this
    have NPn : Hid (∀ W kb, Nb w kb (fun _ => False) W → Calls Tryz.prog 11 #[.int .i64 4, .int .u32 ((a : Int) % 4294967296), .int .u32 ((b : Int) % 4294967296), .slice ao p.length cap, .pointer (some ⟨kb, 0, none⟩)] W fun e w' => e = .returned (.bool true) ∧ Nb w kb (fun _ => False) w') := fun W kb h => by
      have := Pn.numbers_any (a := a % 4294967296) (b := b % 4294967296) (by omega) (by omega) hp HV.out h
      rwa [show ((a % 4294967296 : Nat) : Int) = (a : Int) % 4294967296 from by omega, show ((b % 4294967296 : Nat) : Int) = (b : Int) % 4294967296 from by omega] at this
    have NGr : Hid (∀ W kb, Nb w kb (fun _ => False) W → Calls Tryz.prog 12 #[.int .i64 8, .int .u64 (a : Int), .int .u64 (b : Int), .slice ao p.length cap, .pointer (some ⟨kb, 0, none⟩)] W fun e w' => e = .returned (.bool true) ∧ Nb w kb (fun _ => False) w') := fun W kb h => by
      exact Gr.numbers_any ha hb hp HV.out h
    have TU8 : Hid (∀ W, Calls Tryz.prog 13 #[.int .u8 ((a : Int) % 256)] W fun e w' => e = .returned (.bool true) ∧ w' = W) := fun W => by
      have := U8.to_any (n := a % 256) (by omega) W
      rwa [show ((a % 256 : Nat) : Int) = (a : Int) % 256 from by omega] at this
    have TU16 : Hid (∀ W, Calls Tryz.prog 14 #[.int .u16 ((a : Int) % 65536)] W fun e w' => e = .returned (.bool true) ∧ w' = W) := fun W => by
      have := U16.to_any (n := a % 65536) (by omega) W
      rwa [show ((a % 65536 : Nat) : Int) = (a : Int) % 65536 from by omega] at this
    have TU32 : Hid (∀ W, Calls Tryz.prog 15 #[.int .u32 ((a : Int) % 4294967296)] W fun e w' => e = .returned (.bool true) ∧ w' = W) := fun W => by
      have := U32.to_any (n := a % 4294967296) (by omega) W
      rwa [show ((a % 4294967296 : Nat) : Int) = (a : Int) % 4294967296 from by omega] at this
    have TU64 : Hid (∀ W, Calls Tryz.prog 16 #[.int .u64 (a : Int)] W fun e w' => e = .returned (.bool true) ∧ w' = W) := fun W => by
      exact U64.to_any ha W
    have TGr : Hid (∀ W, Calls Tryz.prog 17 #[.int .u64 (b : Int)] W fun e w' => e = .returned (.bool true) ∧ w' = W) := fun W => by
      exact Gr.to_any hb W
    have TTi : Hid (∀ W, Calls Tryz.prog 18 #[.int .u8 ((b : Int) % 256)] W fun e w' => e = .returned (.bool true) ∧ w' = W) := fun W => by
      have := Ti.to_any (n := b % 256) (by omega) W
      rwa [show ((b % 256 : Nat) : Int) = (b : Int) % 256 from by omega] at this
    have HNb : Hid (Nb w (w.heap.size + 1) (fun _ => False) ((w.alloc (.cells #[.int .i64 (p.length : Int)] 3)).alloc (.cells #[.slice none 0 0, .slice none 0 0, .int .i64 0, .bool false] 28))) := by
      refine Nb.start (((Below.refl _ _).alloc (Nat.le_refl _) _).alloc (by simp) _) (by omega) ?_
      have := Array.getElem?_push_size (xs := w.heap.push (.cells #[.int .i64 (p.length : Int)] 3 (0, 0))) (x := Obj.cells #[.slice none 0 0, .slice none 0 0, .int .i64 0, .bool false] 28 (0, 0))
      rw [Array.size_push] at this
      exact this
    go_wp2_with fail
    refine (NU8.out _ _ HNb.out).mono ?_
    rintro e w2 ⟨rfl, hn2⟩
    have HN2 := Lib.hid hn2
    clear hn2 HNb NU8
    go_wp2_with fail
    refine (NU16.out _ _ HN2.out).mono ?_
    rintro e w3 ⟨rfl, hn3⟩
    have HN3 := Lib.hid hn3
    clear hn3 HN2 NU16
    go_wp2_with fail
    refine (NU32.out _ _ HN3.out).mono ?_
    rintro e w4 ⟨rfl, hn4⟩
    have HN4 := Lib.hid hn4
    clear hn4 HN3 NU32
    go_wp2_with fail
    refine (NU64.out _ _ HN4.out).mono ?_
    rintro e w5 ⟨rfl, hn5⟩
    have HN5 := Lib.hid hn5
    clear hn5 HN4 NU64
    go_wp2_with fail
    refine (NTi.out _ _ HN5.out).mono ?_
    rintro e w6 ⟨rfl, hn6⟩
    have HN6 := Lib.hid hn6
    clear hn6 HN5 NTi
    go_wp2_with fail
    refine (NSm.out _ _ HN6.out).mono ?_
    rintro e w7 ⟨rfl, hn7⟩
    have HN7 := Lib.hid hn7
    clear hn7 HN6 NSm
    go_wp2_with fail
    refine (NPn.out _ _ HN7.out).mono ?_
    rintro e w8 ⟨rfl, hn8⟩
    have HN8 := Lib.hid hn8
    clear hn8 HN7 NPn
    go_wp2_with fail
    refine (NGr.out _ _ HN8.out).mono ?_
    rintro e w9 ⟨rfl, hn9⟩
    have HN9 := Lib.hid hn9
    clear hn9 HN8 NGr
    go_wp2_with fail
    refine (TU8.out _).mono ?_
    rintro e w' ⟨rfl, hw⟩
    subst hw
    go_wp2_with fail
    refine (TU16.out _).mono ?_
    rintro e w' ⟨rfl, hw⟩
    subst hw
    go_wp2_with fail
    refine (TU32.out _).mono ?_
    rintro e w' ⟨rfl, hw⟩
    subst hw
    go_wp2_with fail
    refine (TU64.out _).mono ?_
    rintro e w' ⟨rfl, hw⟩
    subst hw
    go_wp2_with fail
    refine (TGr.out _).mono ?_
    rintro e w' ⟨rfl, hw⟩
    subst hw
    go_wp2_with fail
    refine (TTi.out _).mono ?_
    rintro e w' ⟨rfl, hw⟩
    subst hw
    go_wp2_with fail
    refine (HN9.out.apart).mono ?_
    rintro e w20 ⟨rfl, hb20⟩
    go_wp2_with fail
    go_ret
    exact ⟨rfl, hb20⟩
end Go.Proofs.YtkhokajagglogaaGreat
