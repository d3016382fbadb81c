/- WordNumbers: the document's own bytes (written by parts/gen_wr2.py). Own work. -/
import Derived.Test.YtceljnkbkpgdjaaDoorWnRef
namespace Go.Proofs.YtceljnkbkpgdjaaDoor
open Go.RowKit
/-- a byte of a number, in a block of its own -/
theorem sl_byte (w : World) {x : Int} {r : Nat} (e : ((r : Nat) : Int) % 256 = x) : Sl (w.alloc (.cells #[.int .u8 x] 5)) (.slice (some ⟨w.heap.size, 0, none⟩) 1 1) [r % 256] := by
  rw [← e]
  exact sl_one w r
set_option maxRecDepth 100000 in
set_option maxHeartbeats 2000000 in
theorem rBytes_any {s n : Nat} (hs : s ≤ 8) (hn : n ≤ 18446744073709551615) (w : World) : Calls Tryd.prog 60 #[.int .u64 (n : Int), .int .i64 (s : Int)] w fun e w' => ∃ v, e = .returned v ∧ Own w' w.heap.size v (Pl.le s n) ∧ Below w.heap.size w w' := by
  have HO0 : Hid (Own w w.heap.size (.slice none 0 0) (Pl.le 0 n)) := own_nil _ _
  go_enter Tryd.func60, Tryd.ntmps60
  go_wp2
  go_loopw [5, 6] (fun b iv wr => ∃ k : Nat, k ≤ s ∧ iv = .int .i64 (k : Int) ∧ Hid (Own wr w.heap.size b (Pl.le k n)) ∧ Hid (Below w.heap.size w wr)) (fun _ iv _ => s - (intOf iv).toNat)
  case atStart => exact ⟨0, by omega, rfl, HO0, Below.refl _ _⟩
  case round =>
    obtain ⟨k, hk, rfl, HO, HB⟩ := hrel
    by_cases hlt : k < s
    · clear HO0
      have HL : Hid (Pl.le (k + 1) n = Pl.le k n ++ [Pl.shr k n % 256]) := Pl.le_snoc k n
      have HLen : Hid ((Pl.le k n).length = k) := Pl.le_length k n
      have HBase : Hid (w.heap.size ≤ wr.heap.size) := HB.out.size
      have hk8 : k = 0 ∨ k = 1 ∨ k = 2 ∨ k = 3 ∨ k = 4 ∨ k = 5 ∨ k = 6 ∨ k = 7 := by omega
      rcases hk8 with rfl | rfl | rfl | rfl | rfl | rfl | rfl | rfl
      · have HE : Hid (Pl.shr 0 n % 256 = n / 1 % 256) := by
          show n % 256 = n / 1 % 256
          omega
        have HSl : Hid (Sl (wr.alloc (.cells #[.int .u8 ((n : Int) % 256)] 5)) (.slice (some ⟨wr.heap.size, 0, none⟩) 1 1) [n / 1 % 256]) := sl_byte wr (by omega)
        have HOA : Hid (Own (wr.alloc (.cells #[.int .u8 ((n : Int) % 256)] 5)) w.heap.size u5 (Pl.le 0 n)) := HO.out.below ((Below.refl _ _).alloc (Nat.le_refl _) _)
        go_wp2_with (at_builtin; refine wpList_append_sl (v := u5) (.tmp 12) (.tmp 19) (by rfl) rfl rfl HOA.out rfl HSl.out (by rw [HLen.out]; simp only [List.length_cons, List.length_nil]; omega) (by simp; exact Nat.le_succ_of_le HBase.out) ?_; intro v2 w2 h2 g2 l2; have HO2 : Hid (Own w2 w.heap.size v2 (Pl.le 0 n ++ [n / 1 % 256])) := h2; have HG2 : Hid ((wr.alloc (.cells #[.int .u8 ((n : Int) % 256)] 5)).grownBy w2 u5.ownBlock) := g2; clear h2 g2 l2)
        go_roundw
        case rel =>
          refine ⟨1, by omega, rfl, ?_, ?_⟩
          · have h := HO2.out
            rw [← HE.out, ← HL.out] at h
            exact h
          · refine (HB.out.alloc HBase.out _).grown HG2.out (Nat.le_trans HBase.out (by simp)) (fun k hk => (HO.out.lt k hk).1)
        case measure => simp [intOf]; omega
      · have HE : Hid (Pl.shr 1 n % 256 = n / 256 % 256) := by
          show n / 256 % 256 = n / 256 % 256
          omega
        have HSl : Hid (Sl (wr.alloc (.cells #[.int .u8 ((n : Int) / 256 % 256)] 5)) (.slice (some ⟨wr.heap.size, 0, none⟩) 1 1) [n / 256 % 256]) := sl_byte wr (by omega)
        have HOA : Hid (Own (wr.alloc (.cells #[.int .u8 ((n : Int) / 256 % 256)] 5)) w.heap.size u5 (Pl.le 1 n)) := HO.out.below ((Below.refl _ _).alloc (Nat.le_refl _) _)
        go_wp2_with (at_builtin; refine wpList_append_sl (v := u5) (.tmp 12) (.tmp 19) (by rfl) rfl rfl HOA.out rfl HSl.out (by rw [HLen.out]; simp only [List.length_cons, List.length_nil]; omega) (by simp; exact Nat.le_succ_of_le HBase.out) ?_; intro v2 w2 h2 g2 l2; have HO2 : Hid (Own w2 w.heap.size v2 (Pl.le 1 n ++ [n / 256 % 256])) := h2; have HG2 : Hid ((wr.alloc (.cells #[.int .u8 ((n : Int) / 256 % 256)] 5)).grownBy w2 u5.ownBlock) := g2; clear h2 g2 l2)
        go_roundw
        case rel =>
          refine ⟨2, by omega, rfl, ?_, ?_⟩
          · have h := HO2.out
            rw [← HE.out, ← HL.out] at h
            exact h
          · refine (HB.out.alloc HBase.out _).grown HG2.out (Nat.le_trans HBase.out (by simp)) (fun k hk => (HO.out.lt k hk).1)
        case measure => simp [intOf]; omega
      · have HE : Hid (Pl.shr 2 n % 256 = n / 65536 % 256) := by
          show n / 256 / 256 % 256 = n / 65536 % 256
          omega
        have HSl : Hid (Sl (wr.alloc (.cells #[.int .u8 ((n : Int) / 65536 % 256)] 5)) (.slice (some ⟨wr.heap.size, 0, none⟩) 1 1) [n / 65536 % 256]) := sl_byte wr (by omega)
        have HOA : Hid (Own (wr.alloc (.cells #[.int .u8 ((n : Int) / 65536 % 256)] 5)) w.heap.size u5 (Pl.le 2 n)) := HO.out.below ((Below.refl _ _).alloc (Nat.le_refl _) _)
        go_wp2_with (at_builtin; refine wpList_append_sl (v := u5) (.tmp 12) (.tmp 19) (by rfl) rfl rfl HOA.out rfl HSl.out (by rw [HLen.out]; simp only [List.length_cons, List.length_nil]; omega) (by simp; exact Nat.le_succ_of_le HBase.out) ?_; intro v2 w2 h2 g2 l2; have HO2 : Hid (Own w2 w.heap.size v2 (Pl.le 2 n ++ [n / 65536 % 256])) := h2; have HG2 : Hid ((wr.alloc (.cells #[.int .u8 ((n : Int) / 65536 % 256)] 5)).grownBy w2 u5.ownBlock) := g2; clear h2 g2 l2)
        go_roundw
        case rel =>
          refine ⟨3, by omega, rfl, ?_, ?_⟩
          · have h := HO2.out
            rw [← HE.out, ← HL.out] at h
            exact h
          · refine (HB.out.alloc HBase.out _).grown HG2.out (Nat.le_trans HBase.out (by simp)) (fun k hk => (HO.out.lt k hk).1)
        case measure => simp [intOf]; omega
      · have HE : Hid (Pl.shr 3 n % 256 = n / 16777216 % 256) := by
          show n / 256 / 256 / 256 % 256 = n / 16777216 % 256
          omega
        have HSl : Hid (Sl (wr.alloc (.cells #[.int .u8 ((n : Int) / 16777216 % 256)] 5)) (.slice (some ⟨wr.heap.size, 0, none⟩) 1 1) [n / 16777216 % 256]) := sl_byte wr (by omega)
        have HOA : Hid (Own (wr.alloc (.cells #[.int .u8 ((n : Int) / 16777216 % 256)] 5)) w.heap.size u5 (Pl.le 3 n)) := HO.out.below ((Below.refl _ _).alloc (Nat.le_refl _) _)
        go_wp2_with (at_builtin; refine wpList_append_sl (v := u5) (.tmp 12) (.tmp 19) (by rfl) rfl rfl HOA.out rfl HSl.out (by rw [HLen.out]; simp only [List.length_cons, List.length_nil]; omega) (by simp; exact Nat.le_succ_of_le HBase.out) ?_; intro v2 w2 h2 g2 l2; have HO2 : Hid (Own w2 w.heap.size v2 (Pl.le 3 n ++ [n / 16777216 % 256])) := h2; have HG2 : Hid ((wr.alloc (.cells #[.int .u8 ((n : Int) / 16777216 % 256)] 5)).grownBy w2 u5.ownBlock) := g2; clear h2 g2 l2)
        go_roundw
        case rel =>
          refine ⟨4, by omega, rfl, ?_, ?_⟩
          · have h := HO2.out
            rw [← HE.out, ← HL.out] at h
            exact h
          · refine (HB.out.alloc HBase.out _).grown HG2.out (Nat.le_trans HBase.out (by simp)) (fun k hk => (HO.out.lt k hk).1)
        case measure => simp [intOf]; omega
      · have HE : Hid (Pl.shr 4 n % 256 = n / 4294967296 % 256) := by
          show n / 256 / 256 / 256 / 256 % 256 = n / 4294967296 % 256
          omega
        have HSl : Hid (Sl (wr.alloc (.cells #[.int .u8 ((n : Int) / 4294967296 % 256)] 5)) (.slice (some ⟨wr.heap.size, 0, none⟩) 1 1) [n / 4294967296 % 256]) := sl_byte wr (by omega)
        have HOA : Hid (Own (wr.alloc (.cells #[.int .u8 ((n : Int) / 4294967296 % 256)] 5)) w.heap.size u5 (Pl.le 4 n)) := HO.out.below ((Below.refl _ _).alloc (Nat.le_refl _) _)
        go_wp2_with (at_builtin; refine wpList_append_sl (v := u5) (.tmp 12) (.tmp 19) (by rfl) rfl rfl HOA.out rfl HSl.out (by rw [HLen.out]; simp only [List.length_cons, List.length_nil]; omega) (by simp; exact Nat.le_succ_of_le HBase.out) ?_; intro v2 w2 h2 g2 l2; have HO2 : Hid (Own w2 w.heap.size v2 (Pl.le 4 n ++ [n / 4294967296 % 256])) := h2; have HG2 : Hid ((wr.alloc (.cells #[.int .u8 ((n : Int) / 4294967296 % 256)] 5)).grownBy w2 u5.ownBlock) := g2; clear h2 g2 l2)
        go_roundw
        case rel =>
          refine ⟨5, by omega, rfl, ?_, ?_⟩
          · have h := HO2.out
            rw [← HE.out, ← HL.out] at h
            exact h
          · refine (HB.out.alloc HBase.out _).grown HG2.out (Nat.le_trans HBase.out (by simp)) (fun k hk => (HO.out.lt k hk).1)
        case measure => simp [intOf]; omega
      · have HE : Hid (Pl.shr 5 n % 256 = n / 1099511627776 % 256) := by
          show n / 256 / 256 / 256 / 256 / 256 % 256 = n / 1099511627776 % 256
          omega
        have HSl : Hid (Sl (wr.alloc (.cells #[.int .u8 ((n : Int) / 1099511627776 % 256)] 5)) (.slice (some ⟨wr.heap.size, 0, none⟩) 1 1) [n / 1099511627776 % 256]) := sl_byte wr (by omega)
        have HOA : Hid (Own (wr.alloc (.cells #[.int .u8 ((n : Int) / 1099511627776 % 256)] 5)) w.heap.size u5 (Pl.le 5 n)) := HO.out.below ((Below.refl _ _).alloc (Nat.le_refl _) _)
        go_wp2_with (at_builtin; refine wpList_append_sl (v := u5) (.tmp 12) (.tmp 19) (by rfl) rfl rfl HOA.out rfl HSl.out (by rw [HLen.out]; simp only [List.length_cons, List.length_nil]; omega) (by simp; exact Nat.le_succ_of_le HBase.out) ?_; intro v2 w2 h2 g2 l2; have HO2 : Hid (Own w2 w.heap.size v2 (Pl.le 5 n ++ [n / 1099511627776 % 256])) := h2; have HG2 : Hid ((wr.alloc (.cells #[.int .u8 ((n : Int) / 1099511627776 % 256)] 5)).grownBy w2 u5.ownBlock) := g2; clear h2 g2 l2)
        go_roundw
        case rel =>
          refine ⟨6, by omega, rfl, ?_, ?_⟩
          · have h := HO2.out
            rw [← HE.out, ← HL.out] at h
            exact h
          · refine (HB.out.alloc HBase.out _).grown HG2.out (Nat.le_trans HBase.out (by simp)) (fun k hk => (HO.out.lt k hk).1)
        case measure => simp [intOf]; omega
      · have HE : Hid (Pl.shr 6 n % 256 = n / 281474976710656 % 256) := by
          show n / 256 / 256 / 256 / 256 / 256 / 256 % 256 = n / 281474976710656 % 256
          omega
        have HSl : Hid (Sl (wr.alloc (.cells #[.int .u8 ((n : Int) / 281474976710656 % 256)] 5)) (.slice (some ⟨wr.heap.size, 0, none⟩) 1 1) [n / 281474976710656 % 256]) := sl_byte wr (by omega)
        have HOA : Hid (Own (wr.alloc (.cells #[.int .u8 ((n : Int) / 281474976710656 % 256)] 5)) w.heap.size u5 (Pl.le 6 n)) := HO.out.below ((Below.refl _ _).alloc (Nat.le_refl _) _)
        go_wp2_with (at_builtin; refine wpList_append_sl (v := u5) (.tmp 12) (.tmp 19) (by rfl) rfl rfl HOA.out rfl HSl.out (by rw [HLen.out]; simp only [List.length_cons, List.length_nil]; omega) (by simp; exact Nat.le_succ_of_le HBase.out) ?_; intro v2 w2 h2 g2 l2; have HO2 : Hid (Own w2 w.heap.size v2 (Pl.le 6 n ++ [n / 281474976710656 % 256])) := h2; have HG2 : Hid ((wr.alloc (.cells #[.int .u8 ((n : Int) / 281474976710656 % 256)] 5)).grownBy w2 u5.ownBlock) := g2; clear h2 g2 l2)
        go_roundw
        case rel =>
          refine ⟨7, by omega, rfl, ?_, ?_⟩
          · have h := HO2.out
            rw [← HE.out, ← HL.out] at h
            exact h
          · refine (HB.out.alloc HBase.out _).grown HG2.out (Nat.le_trans HBase.out (by simp)) (fun k hk => (HO.out.lt k hk).1)
        case measure => simp [intOf]; omega
      · have HE : Hid (Pl.shr 7 n % 256 = n / 72057594037927936 % 256) := by
          show n / 256 / 256 / 256 / 256 / 256 / 256 / 256 % 256 = n / 72057594037927936 % 256
          omega
        have HSl : Hid (Sl (wr.alloc (.cells #[.int .u8 ((n : Int) / 72057594037927936)] 5)) (.slice (some ⟨wr.heap.size, 0, none⟩) 1 1) [n / 72057594037927936 % 256]) := sl_byte wr (by omega)
        have HOA : Hid (Own (wr.alloc (.cells #[.int .u8 ((n : Int) / 72057594037927936)] 5)) w.heap.size u5 (Pl.le 7 n)) := HO.out.below ((Below.refl _ _).alloc (Nat.le_refl _) _)
        go_wp2_with (at_builtin; refine wpList_append_sl (v := u5) (.tmp 12) (.tmp 19) (by rfl) rfl rfl HOA.out rfl HSl.out (by rw [HLen.out]; simp only [List.length_cons, List.length_nil]; omega) (by simp; exact Nat.le_succ_of_le HBase.out) ?_; intro v2 w2 h2 g2 l2; have HO2 : Hid (Own w2 w.heap.size v2 (Pl.le 7 n ++ [n / 72057594037927936 % 256])) := h2; have HG2 : Hid ((wr.alloc (.cells #[.int .u8 ((n : Int) / 72057594037927936)] 5)).grownBy w2 u5.ownBlock) := g2; clear h2 g2 l2)
        go_roundw
        case rel =>
          refine ⟨8, by omega, rfl, ?_, ?_⟩
          · have h := HO2.out
            rw [← HE.out, ← HL.out] at h
            exact h
          · refine (HB.out.alloc HBase.out _).grown HG2.out (Nat.le_trans HBase.out (by simp)) (fun k hk => (HO.out.lt k hk).1)
        case measure => simp [intOf]; omega
    · obtain rfl : k = s := by omega
      go_wp2
      go_ret
      exact ⟨_, rfl, HO.out, HB.out⟩
set_option maxRecDepth 100000 in
set_option maxHeartbeats 2000000 in
theorem rNumber_yes {s : Nat} {zs : List Nat} {v : Value} {w : World} (hs : s ≤ 8) (hv : Sl w v zs) (hl : s ≤ zs.length) (h0 : 0 < s) :
    Calls Tryd.prog 71 #[v, .int .i64 (s : Int)] w fun e w' => e = .returned (.tuple #[.int .u64 (Pl.num s zs : Nat), .bool true]) ∧ w' = w := by
  obtain ⟨b, o, cap, rfl, h1, h2, h3, h4⟩ := hv.pos (by omega)
  have HC : Hid (∀ i, i < zs.length → w.cell? ⟨b, o + i, none⟩ = some (.int .u8 (zs.getD i 0 : Nat))) := h4
  have HZ : Hid (∀ z ∈ zs, z < 256) := h3
  unfold maxLen at h2
  clear h3 h4
  go_enter Tryd.func71, Tryd.ntmps71
  go_wp2
  go_loop [6, 7] (fun nv iv => ∃ j : Nat, j ≤ s ∧ iv = .int .i64 ((j : Int) - 1) ∧ nv = .int .u64 ((Pl.acc zs j (s - j) : Nat) : Int)) (fun _ iv => (intOf iv + 1).toNat)
  case atStart => exact ⟨s, by omega, rfl, by rw [Nat.sub_self]; rfl⟩
  case round =>
    obtain ⟨j, hj, rfl, rfl⟩ := hrel
    rcases j with _ | k
    · have HE : Hid (Pl.acc zs 0 (s - 0) = Pl.num s zs) := (rfl : _ = _)
      generalize Pl.acc zs 0 (s - 0) = x at *
      go_wp2
      go_ret2
      exact ⟨by rw [← HE.out]; rfl, rfl⟩
    · have hck := HC.out k (by omega)
      have hz := Pl.mem_getD (k := k) HZ.out
      have HA : Hid (Pl.acc zs k (s - k) = zs.getD k 0 + 256 * Pl.acc zs (k + 1) (s - (k + 1))) := by
        show _ = _
        rw [show s - k = (s - (k + 1)) + 1 from by omega]
        rfl
      have hs0 := Pl.acc_lt HZ.out (k + 1) (s - (k + 1))
      have hs1 : Pl.acc zs (k + 1) (s - (k + 1)) < 72057594037927936 := Nat.lt_of_lt_of_le hs0 (Nat.le_trans (Nat.pow_le_pow_right (by decide) (show s - (k + 1) ≤ 7 by omega)) (by decide))
      clear hs0
      generalize Pl.acc zs (k + 1) (s - (k + 1)) = x at *
      generalize zs.getD k 0 = z at *
      go_wp2
      go_round
      case rel => exact ⟨k, by omega, by go_num, by rw [HA.out]; go_num⟩
      case measure => simp [intOf]
set_option maxRecDepth 100000 in
set_option maxHeartbeats 2000000 in
theorem rNumber_no {s : Nat} {zs : List Nat} {v : Value} {w : World} (hv : Sl w v zs) (hl : zs.length < s) :
    Calls Tryd.prog 71 #[v, .int .i64 (s : Int)] w fun e w' => e = .returned (.tuple #[.int .u64 0, .bool false]) ∧ w' = w := by
  obtain ⟨ao, cap, rfl, _⟩ := hv
  have hd : decide ((zs.length : Int) < (s : Int)) = true := decide_eq_true (by omega)
  go_enter Tryd.func71, Tryd.ntmps71
  go_wp2
  go_ret2
  exact ⟨rfl, rfl⟩
end Go.Proofs.YtceljnkbkpgdjaaDoor
