/- WordBursts: the walk. -/
import Derived.Test.YtphlfkkbkkocmabDoorBurst
namespace Go.Proofs.YtphlfkkbkkocmabDoor
open Go.RowKit
theorem Wr.below {w w' : World} {p : Nat} {v : Value} {zs : List Nat} {why : Int} {base : Nat} (h : Wr w p v zs why base) (hb : Below w.heap.size w w') : Wr w' p v zs why base :=
  h.keeps (Keeps.of_below (S := fun _ => False) hb) (fun h => h) (fun _ _ h => h)
theorem Rd.below {w w' : World} {p g : Nat} {zs : List Nat} {pos : Nat} {why : Int} (h : Rd w p g zs pos why) (hb : Below w.heap.size w w') : Rd w' p g zs pos why :=
  h.keeps (Keeps.of_below (S := fun _ => False) hb) (fun h => h) (fun h => h)
theorem Wr.bases {w : World} {p : Nat} {v : Value} {zs : List Nat} {why : Int} {base : Nat} (h : Wr w p v zs why base) : ∀ k, v.ownBlock = some k → base ≤ k := fun k hk => (h.2.1.lt k hk).1
namespace Pl
def sealed (xs : List Nat) : List Nat := xs ++ le 4 (crc xs)
theorem sealed_length (xs : List Nat) : (sealed xs).length = xs.length + 4 := by rw [sealed, List.length_append, le_length]
theorem sealed_drop (xs : List Nat) : (sealed xs).drop xs.length = le 4 (crc xs) := by rw [sealed, List.drop_left]
theorem sealed_take (xs : List Nat) : (sealed xs).take xs.length = xs := by rw [sealed, List.take_left]
theorem sealed_num (xs : List Nat) (h : ∀ z ∈ xs, z < 256) : num 4 ((sealed xs).drop xs.length) = crc ((sealed xs).take xs.length) := by
  rw [sealed_drop, sealed_take]
  have := num_le 4 (crc xs) [] (more_lt (by decide) h)
  rwa [List.append_nil] at this
end Pl
set_option maxHeartbeats 1000000 in
theorem bursts_beyond (xs : List Nat) (ao : Option Addr) (ca : Nat) (at_ : Int) (pat : Nat) (w : World) (hm : xs.length ≤ maxLen) (hle : 2147483647 < xs.length + 4) :
    Calls Tryd.prog 5 #[.slice ao xs.length ca, .int .i64 at_, .int .u32 (pat : Int)] w fun e w' => e = .returned (.bool true) ∧ Below w.heap.size w w' := by
  go_enter Tryd.func5, Tryd.ntmps5
  go_wp2_with fail
  refine (beyond2_yes xs.length 4 _ _ _ hm hle (by simp) (by simp)).mono ?_
  rintro e w1 ⟨rfl, hw1⟩
  have HB1 : Hid (Below w.heap.size w w1) := by rw [hw1]; exact (Below.refl _ _).alloc (Nat.le_refl _) _
  clear hw1
  go_wp2
  go_ret
  exact ⟨rfl, HB1.out⟩
set_option maxRecDepth 100000 in
set_option maxHeartbeats 4000000 in
theorem bursts_yes (xs : List Nat) (ao : Option Addr) (ca : Nat) (at_ : Int) (pat : Nat) (w : World) (ht : Tab w) (hs : Sl w (.slice ao xs.length ca) xs) (hpat : pat < 4294967296) (hle : xs.length + 4 ≤ 2147483647) :
    Calls Tryd.prog 5 #[.slice ao xs.length ca, .int .i64 at_, .int .u32 (pat : Int)] w fun e w' => e = .returned (.bool true) ∧ Below w.heap.size w w' := by
  have HT : Hid (Tab w) := ht
  have HS : Hid (Sl w (.slice ao xs.length ca) xs) := hs
  have HZ : Hid (∀ z ∈ xs, z < 256) := hs.small
  clear ht hs
  go_enter Tryd.func5, Tryd.ntmps5
  go_wp2_with fail
  refine (beyond2_no xs.length 4 _ _ _ hle (by simp) (by simp)).mono ?_
  rintro e w1 ⟨rfl, hw1⟩
  have HB1 : Hid (Below w.heap.size w w1) := by rw [hw1]; exact (Below.refl _ _).alloc (Nat.le_refl _) _
  clear hw1
  go_wp2_with fail
  refine (newWriter_any _).mono ?_
  rintro e w2 ⟨rfl, hr, hb⟩
  have HB2 : Hid (Below w.heap.size w w2) := HB1.out.trans (hb.mono HB1.out.size)
  have HP2 : Hid (w.heap.size ≤ w1.heap.size) := HB1.out.size
  have HW2 : Hid (Wr w2 w1.heap.size (.slice none 0 0) [] 0 w1.heap.size) := hr
  clear hr hb HB1
  generalize w1.heap.size = p at *
  clear w1
  have HC : Hid (Calls Tryd.prog 21 #[.pointer (some ⟨p, 0, none⟩), .slice ao xs.length ca] w2 fun e w' => e = .returned (.tuple #[]) ∧ ∃ v', Wr w' p v' xs 0 p ∧ Keeps (Foot p (.slice none 0 0)) w2 w' ∧ At w2 (.slice none 0 0) v') := by
    have h := wbytes_any HW2.out (HS.out.below HB2.out) (by decide) (by omega) (Nat.le_of_lt HW2.out.lt)
    rw [List.nil_append] at h
    exact h
  go_wp2_with fail
  refine HC.out.mono ?_
  rintro e w3 ⟨rfl, v3, hr, hk, _⟩
  have HW3 : Hid (Wr w3 p v3 xs 0 p) := hr
  have HB3 : Hid (Below w.heap.size w w3) := HB2.out.trans (hk.below HB2.out.size (fun i _ e => Or.elim e (fun e => by rw [e]; exact HP2.out) (fun e => by cases e)))
  clear hr hk HW2 HB2 HC
  have HT3 : Hid (Tab w3) := HT.out.below HB3.out
  have HC : Hid (Calls Tryd.prog 22 #[.pointer (some ⟨p, 0, none⟩), .int .i64 0] w3 fun e w' => e = .returned (.tuple #[]) ∧ ∃ v', Wr w' p v' (Pl.sealed xs) 0 p ∧ Keeps (Foot p v3) w3 w' ∧ At w3 v3 v') := by
    have h := wseal_any (fr := 0) HT3.out HW3.out (by omega) (by omega) (Nat.le_of_lt HW3.out.lt)
    rw [List.drop_zero] at h
    exact h
  go_wp2_with fail
  refine HC.out.mono ?_
  rintro e w4 ⟨rfl, v4, hr, hk, _⟩
  have HW4 : Hid (Wr w4 p v4 (Pl.sealed xs) 0 p) := hr
  have HB4 : Hid (Below w.heap.size w w4) := HB3.out.trans (hk.below HB3.out.size (fun i _ e => Or.elim e (fun e => by rw [e]; exact HP2.out) (fun e => Nat.le_trans HP2.out (HW3.out.bases i e))))
  clear hr hk HW3 HB3 HC HT3
  have HL : Hid ((Pl.sealed xs).length = xs.length + 4) := Pl.sealed_length xs
  have HN : Hid (Pl.num 4 ((Pl.sealed xs).drop xs.length) = Pl.crc ((Pl.sealed xs).take xs.length)) := Pl.sealed_num xs HZ.out
  have HZA : Hid (∀ z ∈ Pl.sealed xs, z < 256) := HW4.out.2.2.2
  generalize Pl.sealed xs = A at *
  have HC : Hid (Calls Tryd.prog 12 #[.pointer (some ⟨p, 0, none⟩)] w4 fun e w' => e = .returned (.slice (some ⟨w4.heap.size, 0, none⟩) (xs.length + 4) (xs.length + 4)) ∧ Row w' w4.heap.size A ∧ Below w4.heap.size w4 w') := by
    have h := all_any HW4.out (by rw [HL.out]; omega)
    rw [HL.out] at h
    exact h
  go_wp2_with fail
  refine HC.out.mono ?_
  rintro e w5 ⟨rfl, hrow, hb⟩
  have HB5 : Hid (Below w.heap.size w w5) := HB4.out.trans (hb.mono HB4.out.size)
  have HW5 : Hid (Wr w5 p v4 A 0 p) := HW4.out.below hb
  have HS5 : Hid (Sl w5 (.slice (some ⟨w4.heap.size, 0, none⟩) (xs.length + 4) (xs.length + 4)) A) := by
    have h := hrow.sl HZA.out 0 (xs.length + 4) (xs.length + 4) (by rw [HL.out]; omega) (Nat.le_refl _) (by unfold maxLen; omega)
    rwa [List.drop_zero, List.take_of_length_le (by rw [HL.out]; omega)] at h
  clear hrow hb HB4 HW4 HC
  generalize w4.heap.size = ga at *
  clear w4
  go_wp2_with fail
  refine (err_any HW5.out).mono ?_
  rintro e w' ⟨rfl, hw⟩
  rw [hw]
  clear hw w' HW5
  go_wp2_with fail
  refine (newReader_any HS5.out (by rw [HL.out]; omega)).mono ?_
  rintro e w6 ⟨r, rfl, hlt, hr, hb⟩
  have HB6 : Hid (Below w.heap.size w w6) := HB5.out.trans (hb.mono HB5.out.size)
  have HS6 : Hid (Sl w6 (.slice (some ⟨ga, 0, none⟩) (xs.length + 4) (xs.length + 4)) A) := HS5.out.below hb
  have HR6 : Hid (Rd w6 r w5.heap.size A 0 0) := hr
  have HRl : Hid (w.heap.size ≤ r) := Nat.le_trans HB5.out.size (Nat.le_of_lt hlt)
  have HGl : Hid (w5.heap.size < w6.heap.size) := hr.2.1.lt
  clear hlt hr hb HB5 HS5
  generalize w5.heap.size = gr at *
  clear w5
  go_wp2_with fail
  refine (burst_any HS6.out (by rw [HL.out]; omega) (by rw [HL.out]; omega) hpat).mono ?_
  rintro e w7 ⟨v7, ys, bb, X, rfl, hsl, hyl, hX0, hX1, hnum, hb⟩
  have HB7 : Hid (Below w.heap.size w w7) := HB6.out.trans (hb.mono HB6.out.size)
  have HS7 : Hid (Sl w7 v7 ys) := hsl
  have HR7 : Hid (Rd w7 r gr A 0 0) := HR6.out.below hb
  have HYL : Hid (ys.length = xs.length + 4) := hyl.trans HL.out
  have HNe : Hid (Pl.num 4 (ys.drop xs.length) ≠ Pl.crc (ys.take xs.length)) := Pl.burst_told xs.length A ys HZA.out hsl.small (by rw [HL.out]; omega) (by rw [hyl, HL.out]; omega) HN.out bb X hX0 hX1 (by rw [← HL.out]; exact hnum)
  have HRl7 : Hid (r < w7.heap.size ∧ gr < w7.heap.size) := ⟨HR7.out.lt, HR7.out.2.1.lt⟩
  clear hsl hyl hX0 hX1 hnum hb HB6 HS6 HR6 HGl
  go_wp2_with fail
  refine (newReader_any HS7.out (by rw [HYL.out]; omega)).mono ?_
  rintro e w8 ⟨q, rfl, hlt, hr, hb⟩
  have HB8 : Hid (Below w.heap.size w w8) := HB7.out.trans (hb.mono HB7.out.size)
  have HR8 : Hid (Rd w8 r gr A 0 0) := HR7.out.below hb
  have HQ8 : Hid (Rd w8 q w7.heap.size ys 0 0) := hr
  have HQl : Hid (w.heap.size ≤ q) := Nat.le_trans HB7.out.size (Nat.le_of_lt hlt)
  have HNe1 : Hid (q ≠ r) := Nat.ne_of_gt (Nat.lt_trans HRl7.out.1 hlt)
  have HNe2 : Hid (w7.heap.size ≠ r) := Nat.ne_of_gt HRl7.out.1
  clear hlt hr hb HB7 HR7 HS7 HRl7
  generalize w7.heap.size = gq at *
  clear w7
  go_wp2_with fail
  refine (rbytes_yes (n := xs.length) HR8.out (by rw [HL.out]; omega)).mono ?_
  rintro e w9 ⟨k9, rfl, hk9, _, _, hr, hk⟩
  have HR9 : Hid (Rd w9 r gr A xs.length 0) := by rw [Nat.zero_add] at hr; exact hr
  have HQ9 : Hid (Rd w9 q gq ys 0 0) := HQ8.out.keeps hk HNe1.out HNe2.out
  have HB9 : Hid (Below w.heap.size w w9) := HB8.out.trans (hk.below HB8.out.size (fun i _ e => by rw [e]; exact HRl.out))
  clear hk9 hr hk HR8 HQ8 HB8
  have HT9 : Hid (Tab w9) := HT.out.below HB9.out
  have HC : Hid (Calls Tryd.prog 26 #[.pointer (some ⟨r, 0, none⟩), .int .i64 0] w9 fun e w' => e = .returned (.tuple #[]) ∧ Rd w' r gr A (xs.length + 4) 0 ∧ Keeps (fun k => k = r) w9 w') :=
    rseal_yes (fr := 0) HT9.out HR9.out (by omega) (by rw [HL.out]; omega) (by rw [List.drop_zero, Nat.sub_zero]; exact HN.out)
  go_wp2_with fail
  refine HC.out.mono ?_
  rintro e w10 ⟨rfl, hr, hk⟩
  have HR10 : Hid (Rd w10 r gr A (xs.length + 4) 0) := hr
  have HQ10 : Hid (Rd w10 q gq ys 0 0) := HQ9.out.keeps hk HNe1.out HNe2.out
  have HB10 : Hid (Below w.heap.size w w10) := HB9.out.trans (hk.below HB9.out.size (fun i _ e => by rw [e]; exact HRl.out))
  clear hr hk HR9 HQ9 HB9 HC HT9
  go_wp2_with fail
  refine (end_none HR10.out HL.out.symm).mono ?_
  rintro e w11 ⟨rfl, hs⟩
  have HQ11 : Hid (Rd w11 q gq ys 0 0) := hs.rd HQ10.out
  have HB11 : Hid (Below w.heap.size w w11) := HB10.out.trans (hs.2.mono HB10.out.size)
  clear hs HR10 HQ10 HB10
  go_wp2_with fail
  refine (rbytes_yes (n := xs.length) HQ11.out (by rw [HYL.out]; omega)).mono ?_
  rintro e w12 ⟨k12, rfl, hk12, _, _, hr, hk⟩
  have HQ12 : Hid (Rd w12 q gq ys xs.length 0) := by rw [Nat.zero_add] at hr; exact hr
  have HB12 : Hid (Below w.heap.size w w12) := HB11.out.trans (hk.below HB11.out.size (fun i _ e => by rw [e]; exact HQl.out))
  clear hk12 hr hk HQ11 HB11
  go_wp2_with fail
  refine (rerr_any HQ12.out).mono ?_
  rintro e w' ⟨rfl, hw⟩
  rw [hw]
  clear hw w'
  have HT12 : Hid (Tab w12) := HT.out.below HB12.out
  have HC : Hid (Calls Tryd.prog 26 #[.pointer (some ⟨q, 0, none⟩), .int .i64 0] w12 fun e w' => e = .returned (.tuple #[]) ∧ Rd w' q gq ys xs.length 11 ∧ Keeps (fun k => k = q) w12 w') :=
    rseal_sum (fr := 0) HT12.out HQ12.out (by omega) (by rw [HYL.out]; omega) (by rw [List.drop_zero, Nat.sub_zero]; exact HNe.out)
  go_wp2_with fail
  refine HC.out.mono ?_
  rintro e w13 ⟨rfl, hr, hk⟩
  have HQ13 : Hid (Rd w13 q gq ys xs.length 11) := hr
  have HB13 : Hid (Below w.heap.size w w13) := HB12.out.trans (hk.below HB12.out.size (fun i _ e => by rw [e]; exact HQl.out))
  clear hr hk HQ12 HB12 HC HT12
  go_wp2_with fail
  refine (rerr_any HQ13.out).mono ?_
  rintro e w' ⟨rfl, hw⟩
  rw [hw]
  clear hw w'
  go_wp2_with fail
  refine (rat_any HQ13.out).mono ?_
  rintro e w' ⟨rfl, hw⟩
  rw [hw]
  clear hw w'
  go_wp2
  go_ret
  exact ⟨rfl, HB13.out⟩
theorem bursts_any {xs : List Nat} {v : Value} {at_ : Int} {pat : Nat} {w : World} (ht : Tab w) (hs : Sl w v xs) (hpat : pat < 4294967296) :
    Calls Tryd.prog 5 #[v, .int .i64 at_, .int .u32 (pat : Int)] w fun e w' => e = .returned (.bool true) ∧ Below w.heap.size w w' := by
  obtain ⟨ao, ca, rfl, h1, h2, _⟩ := id hs
  by_cases hle : xs.length + 4 ≤ 2147483647
  · exact bursts_yes xs ao ca at_ pat w ht hs hpat hle
  · exact bursts_beyond xs ao ca at_ pat w (by omega) (by omega)
end Go.Proofs.YtphlfkkbkkocmabDoor
