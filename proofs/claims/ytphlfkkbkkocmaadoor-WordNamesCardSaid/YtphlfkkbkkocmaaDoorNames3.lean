/- WordNames: the walk. -/
import Derived.Test.YtphlfkkbkkocmaaDoorMul2
namespace Go.Proofs.YtphlfkkbkkocmaaDoor
open Go.RowKit
theorem crc_nil {w : World} (ht : Tab w) : Calls Tryd.prog 8 #[.slice none 0 0] w fun e w' => e = .returned (.int .u32 0) ∧ w' = w := by
  have h := crc_any ht (v := .slice none 0 0) (zs := []) ⟨none, 0, rfl, by simp, by simp [maxLen], by simp, fun _ => rfl, fun i hi => by simp at hi⟩
  rw [show Pl.crc [] = 0 from by decide] at h
  exact h
theorem sl_nil (w : World) : Sl w (.slice none 0 0) [] := ⟨none, 0, rfl, by simp, by simp [maxLen], by simp, fun _ => rfl, fun i hi => by simp at hi⟩
theorem Wr.below {w w' : World} {p : Nat} {v : Value} {zs : List Nat} {why : Int} {base : Nat} (h : Wr w p v zs why base) (hb : Below w.heap.size w w') : Wr w' p v zs why base :=
  h.keeps (Keeps.of_below (S := fun _ => False) hb) (fun h => h) (fun _ _ h => h)
theorem Wr.bases {w : World} {p : Nat} {v : Value} {zs : List Nat} {why : Int} {base : Nat} (h : Wr w p v zs why base) : ∀ k, v.ownBlock = some k → base ≤ k := fun k hk => (h.2.1.lt k hk).1
/-- the nine bytes as the text lays them, and with the mark that the conversion leaves behind them -/
def nine : Array Value := #[.int .u8 49, .int .u8 50, .int .u8 51, .int .u8 52, .int .u8 53, .int .u8 54, .int .u8 55, .int .u8 56, .int .u8 57]
theorem push_modify (a : Array Obj) (x : Obj) (f : Obj → Obj) : (a.push x).modify a.size f = a.push (f x) := by
  refine Array.ext (by simp) fun i h1 h2 => ?_
  rw [Array.getElem_modify]
  by_cases h : a.size = i
  · subst h
    simp
  · rw [if_neg h, Array.getElem_push, Array.getElem_push, dif_pos (by simp at h1; omega), dif_pos (by simp at h1; omega)]
theorem convert_nine (w : World) : (convert 24 24 (.slice (some ⟨w.heap.size, 0, none⟩) 9 9)).run Tryd.prog (w.alloc (.cells nine 5)) = .ok (.slice (some ⟨w.heap.size, 0, none⟩) 9 9) (w.alloc (.cells nine 5 (9, 10))) := by
  have hh : (w.alloc (.cells nine 5)).heap[w.heap.size]? = some (.cells nine 5) := heap_alloc_new w _
  have hs : (w.alloc (.cells nine 5)).shape? w.heap.size = some (5, 9) := by
    unfold World.shape?
    rw [hh]
    rfl
  have hf : (w.alloc (.cells nine 5)).freeze ⟨w.heap.size, 9, none⟩ 1 = w.alloc (.cells nine 5 (9, 10)) := by
    unfold World.freeze
    rw [if_neg (by decide)]
    show ({ w.alloc (.cells nine 5) with heap := (w.heap.push (.cells nine 5)).modify w.heap.size _ } : World) = _
    rw [push_modify]
    rfl
  simp [convert, run_underlying Tryd.underlying24, run_underlying Tryd.underlying5, markStringish, hs]
  exact hf
set_option maxRecDepth 100000 in
set_option maxHeartbeats 4000000 in
theorem names_walk (w : World) (ht : Tab w) :
    Calls Tryd.prog 3 #[] w fun e w' => e = .returned (.bool true) ∧ Below w.heap.size w w' := by
  have HT : Hid (Tab w) := ht
  have hcv := convert_nine w
  unfold nine at hcv
  clear ht
  go_enter Tryd.func3, Tryd.ntmps3
  go_wp2_with fail
  refine (crc_nil HT.out).mono ?_
  rintro e w' ⟨rfl, hw⟩
  rw [hw]
  clear hw w'
  have HZ : Hid (Calls Tryd.prog 8 #[.slice (some ⟨w.heap.size, 0, none⟩) 9 9] (w.alloc (.cells #[.int .u8 49, .int .u8 50, .int .u8 51, .int .u8 52, .int .u8 53, .int .u8 54, .int .u8 55, .int .u8 56, .int .u8 57] 5 (9, 10))) fun e w' => e = .returned (.int .u32 3808858755) ∧ Below w.heap.size w w') := by
    have hb := (Below.refl w.heap.size w).alloc (Nat.le_refl _) (.cells nine 5 (9, 10))
    have hr : (w.alloc (.cells nine 5 (9, 10))).heap[w.heap.size]? = some (.cells nine 5 (9, 10)) := heap_alloc_new w _
    have hsl : Sl (w.alloc (.cells nine 5 (9, 10))) (.slice (some ⟨w.heap.size, 0, none⟩) 9 9) [49, 50, 51, 52, 53, 54, 55, 56, 57] := by
      refine ⟨some ⟨w.heap.size, 0, none⟩, 9, rfl, by decide, by decide, by decide, by simp, fun i hi => ⟨_, _, rfl, ?_⟩⟩
      rw [Nat.zero_add, cell_of_row _ _ i _ _ _ hr]
      have : ∀ i : Fin 9, nine[i.val]? = some (.int .u8 ((([49, 50, 51, 52, 53, 54, 55, 56, 57] : List Nat).getD i.val 0 : Nat) : Int)) := by
        intro i
        match i with
        | 0 | 1 | 2 | 3 | 4 | 5 | 6 | 7 | 8 => rfl
      exact this ⟨i, hi⟩
    have h := crc_any (HT.out.below hb) hsl
    rw [show Pl.crc [49, 50, 51, 52, 53, 54, 55, 56, 57] = 3808858755 from by decide] at h
    exact h.mono fun e w' ⟨he, hw⟩ => ⟨he, by rw [hw]; exact hb⟩
  go_wp2_with fail
  refine HZ.out.mono ?_
  rintro e w1 ⟨rfl, hb⟩
  have HB1 : Hid (Below w.heap.size w w1) := hb
  have HT1 : Hid (Tab w1) := HT.out.below hb
  clear hb HZ
  have HZ : Hid (Calls Tryd.prog 8 #[.slice (some ⟨w1.heap.size, 0, none⟩) 1 1] (w1.alloc (.cells #[.int .u8 0] 5)) fun e w' => e = .returned (.int .u32 1383945041) ∧ Below w1.heap.size w1 w') := by
    have hr : Row (w1.alloc (.cells #[.int .u8 0] 5)) w1.heap.size [0] := heap_alloc_new w1 _
    have hb := (Below.refl w1.heap.size w1).alloc (Nat.le_refl _) (.cells #[.int .u8 0] 5)
    have h := crc_any (HT1.out.below hb) (hr.sl (by decide) 0 1 1 (by decide) (by decide) (by decide))
    rw [show Pl.crc (([0] : List Nat).drop 0 |>.take 1) = 1383945041 from by decide] at h
    exact h.mono fun e w' ⟨he, hw⟩ => ⟨he, by rw [hw]; exact hb⟩
  go_wp2_with fail
  refine HZ.out.mono ?_
  rintro e w2 ⟨rfl, hb⟩
  have HB2 : Hid (Below w.heap.size w w2) := HB1.out.trans (hb.mono HB1.out.size)
  have HT2 : Hid (Tab w2) := HT1.out.below hb
  clear hb HZ HB1 HT1
  go_wp2_with fail
  refine (mul_15_17 _).mono ?_
  rintro e w' ⟨rfl, hw⟩
  rw [hw]
  clear hw w'
  go_wp2_with fail
  refine (mul_300_300 _).mono ?_
  rintro e w' ⟨rfl, hw⟩
  rw [hw]
  clear hw w'
  go_wp2_with fail
  refine (newWriter_any _).mono ?_
  rintro e w3 ⟨rfl, hr, hb⟩
  have HB3 : Hid (Below w.heap.size w w3) := HB2.out.trans (hb.mono HB2.out.size)
  have HT3 : Hid (Tab w3) := HT2.out.below hb
  have HP3 : Hid (w.heap.size ≤ w2.heap.size) := HB2.out.size
  have HW3 : Hid (Wr w3 w2.heap.size (.slice none 0 0) [] 0 w2.heap.size) := hr
  clear hr hb HB2 HT2
  generalize w2.heap.size = p at *
  clear w2
  go_wp2_with fail
  refine (newWriter_any _).mono ?_
  rintro e w4 ⟨rfl, hr, hb⟩
  have HB4 : Hid (Below w.heap.size w w4) := HB3.out.trans (hb.mono HB3.out.size)
  have HT4 : Hid (Tab w4) := HT3.out.below hb
  have HQ4 : Hid (w.heap.size ≤ w3.heap.size) := HB3.out.size
  have HW4 : Hid (Wr w4 p (.slice none 0 0) [] 0 p) := HW3.out.below hb
  have HX4 : Hid (Wr w4 w3.heap.size (.slice none 0 0) [] 0 w3.heap.size) := hr
  have HPQ : Hid (p < w3.heap.size) := HW3.out.lt
  clear hr hb HB3 HT3 HW3
  generalize w3.heap.size = q at *
  clear w3
  go_wp2_with fail
  refine (len_any HW4.out).mono ?_
  rintro e w' ⟨rfl, hw⟩
  rw [hw]
  clear hw w'
  have HA : Hid (Calls Tryd.prog 13 #[.pointer (some ⟨p, 0, none⟩)] w4 fun e w' => e = .returned (.slice (some ⟨w4.heap.size, 0, none⟩) 0 0) ∧ Below w4.heap.size w4 w') := (all_any HW4.out (by simp)).mono fun e w' ⟨he, _, hb⟩ => ⟨he, hb⟩
  go_wp2_with fail
  refine HA.out.mono ?_
  rintro e w5 ⟨rfl, hb⟩
  have HB5 : Hid (Below w.heap.size w w5) := HB4.out.trans (hb.mono HB4.out.size)
  have HT5 : Hid (Tab w5) := HT4.out.below hb
  have HW5 : Hid (Wr w5 p (.slice none 0 0) [] 0 p) := HW4.out.below hb
  have HX5 : Hid (Wr w5 q (.slice none 0 0) [] 0 q) := HX4.out.below hb
  clear hb HB4 HT4 HW4 HX4 HA
  go_wp2_with fail
  refine (err_any HW5.out).mono ?_
  rintro e w' ⟨rfl, hw⟩
  rw [hw]
  clear hw w'
  go_wp2_with fail
  refine (wpad_bad HX5.out (al := 0) (by omega)).mono ?_
  rintro e w6 ⟨rfl, hr, hk⟩
  have HX6 : Hid (Wr w6 q (.slice none 0 0) [] 1 q) := hr
  have HW6 : Hid (Wr w6 p (.slice none 0 0) [] 0 p) := HW5.out.keeps hk (Nat.ne_of_lt HPQ.out) (fun k e => by cases e)
  have HB6 : Hid (Below w.heap.size w w6) := HB5.out.trans (hk.below HB5.out.size (fun i _ e => by rw [e]; exact HQ4.out))
  clear hr hk HB5 HT5 HW5 HX5
  go_wp2_with fail
  refine (err_any HX6.out).mono ?_
  rintro e w' ⟨rfl, hw⟩
  rw [hw]
  clear hw w'
  have HPut : Hid (Calls Tryd.prog 16 #[.pointer (some ⟨p, 0, none⟩), .int .u32 5] w6 fun e w' => e = .returned (.tuple #[]) ∧ ∃ v', Wr w' p v' [5, 0, 0, 0] 0 p ∧ Keeps (Foot p (.slice none 0 0)) w6 w' ∧ At w6 (.slice none 0 0) v') := put_u32 (n := 5) HW6.out (by decide) (by decide) (Nat.le_of_lt HW6.out.lt)
  go_wp2_with fail
  refine HPut.out.mono ?_
  rintro e w7 ⟨rfl, v7, hr, hk, _⟩
  have HW7 : Hid (Wr w7 p v7 [5, 0, 0, 0] 0 p) := hr
  have HB7 : Hid (Below w.heap.size w w7) := HB6.out.trans (hk.below HB6.out.size (fun i _ e => Or.elim e (fun e => by rw [e]; exact HP3.out) (fun e => by cases e)))
  clear hr hk HW6 HB6 HX6 HPut
  have HPut : Hid (Calls Tryd.prog 15 #[.pointer (some ⟨p, 0, none⟩), .int .i64 8] w7 fun e w' => e = .returned (.tuple #[]) ∧ ∃ v', Wr w' p v' [5, 0, 0, 0, 0, 0, 0, 0] 0 p ∧ Keeps (Foot p v7) w7 w' ∧ At w7 v7 v') := by
    have h := wpad_any (al := 8) HW7.out (by decide) (by decide) (by decide) (Nat.le_of_lt HW7.out.lt)
    rw [show ([5, 0, 0, 0] ++ List.replicate (gapN ([5, 0, 0, 0] : List Nat).length 8) 0 : List Nat) = [5, 0, 0, 0, 0, 0, 0, 0] from by decide] at h
    exact h
  go_wp2_with fail
  refine HPut.out.mono ?_
  rintro e w8 ⟨rfl, v8, hr, hk, _⟩
  have HW8 : Hid (Wr w8 p v8 [5, 0, 0, 0, 0, 0, 0, 0] 0 p) := hr
  have HB8 : Hid (Below w.heap.size w w8) := HB7.out.trans (hk.below HB7.out.size (fun i _ e => Or.elim e (fun e => by rw [e]; exact HP3.out) (fun e => Nat.le_trans HP3.out (HW7.out.bases i e))))
  clear hr hk HW7 HB7 HPut
  have HT8 : Hid (Tab w8) := HT.out.below HB8.out
  have HPut : Hid (Calls Tryd.prog 17 #[.pointer (some ⟨p, 0, none⟩), .int .i64 0] w8 fun e w' => e = .returned (.tuple #[]) ∧ ∃ v', Wr w' p v' [5, 0, 0, 0, 0, 0, 0, 0, 192, 77, 9, 228] 0 p ∧ Keeps (Foot p v8) w8 w' ∧ At w8 v8 v') := by
    have h := wseal_any (fr := 0) HT8.out HW8.out (by decide) (by decide) (Nat.le_of_lt HW8.out.lt)
    rw [show ([5, 0, 0, 0, 0, 0, 0, 0] ++ Pl.le 4 (Pl.crc (([5, 0, 0, 0, 0, 0, 0, 0] : List Nat).drop 0)) : List Nat) = [5, 0, 0, 0, 0, 0, 0, 0, 192, 77, 9, 228] from by decide] at h
    exact h
  go_wp2_with fail
  refine HPut.out.mono ?_
  rintro e w9 ⟨rfl, v9, hr, hk, _⟩
  have HW9 : Hid (Wr w9 p v9 [5, 0, 0, 0, 0, 0, 0, 0, 192, 77, 9, 228] 0 p) := hr
  have HB9 : Hid (Below w.heap.size w w9) := HB8.out.trans (hk.below HB8.out.size (fun i _ e => Or.elim e (fun e => by rw [e]; exact HP3.out) (fun e => Nat.le_trans HP3.out (HW8.out.bases i e))))
  clear hr hk HW8 HB8 HPut HT8
  have HA : Hid (Calls Tryd.prog 13 #[.pointer (some ⟨p, 0, none⟩)] w9 fun e w' => e = .returned (.slice (some ⟨w9.heap.size, 0, none⟩) 12 12) ∧ Row w' w9.heap.size [5, 0, 0, 0, 0, 0, 0, 0, 192, 77, 9, 228] ∧ Below w9.heap.size w9 w') := all_any HW9.out (by decide)
  go_wp2_with fail
  refine HA.out.mono ?_
  rintro e w10 ⟨rfl, hrow, hb⟩
  have HB10 : Hid (Below w.heap.size w w10) := HB9.out.trans (hb.mono HB9.out.size)
  have HW10 : Hid (Wr w10 p v9 [5, 0, 0, 0, 0, 0, 0, 0, 192, 77, 9, 228] 0 p) := HW9.out.below hb
  have HSl10 : Hid (Sl w10 (.slice (some ⟨w9.heap.size, 0, none⟩) 12 12) [5, 0, 0, 0, 0, 0, 0, 0, 192, 77, 9, 228]) := hrow.sl (by decide) 0 12 12 (by decide) (by decide) (by decide)
  clear hrow hb HB9 HW9 HA
  go_wp2_with fail
  refine (newReader_any HSl10.out (by decide)).mono ?_
  rintro e w11 ⟨r, rfl, hlt, hr, hb⟩
  have HB11 : Hid (Below w.heap.size w w11) := HB10.out.trans (hb.mono HB10.out.size)
  have HW11 : Hid (Wr w11 p v9 [5, 0, 0, 0, 0, 0, 0, 0, 192, 77, 9, 228] 0 p) := HW10.out.below hb
  have HR11 : Hid (Rd w11 r w10.heap.size [5, 0, 0, 0, 0, 0, 0, 0, 192, 77, 9, 228] 0 0) := hr
  have HRl : Hid (w.heap.size ≤ r) := Nat.le_trans HB10.out.size (Nat.le_of_lt hlt)
  clear hlt hr hb HB10 HW10 HSl10
  generalize w10.heap.size = g at *
  clear w10
  go_wp2_with fail
  refine (len_any HW11.out).mono ?_
  rintro e w' ⟨rfl, hw⟩
  rw [hw]
  clear hw w'
  have HPut : Hid (Calls Tryd.prog 19 #[.pointer (some ⟨r, 0, none⟩)] w11 fun e w' => e = .returned (.int .u32 5) ∧ Rd w' r g [5, 0, 0, 0, 0, 0, 0, 0, 192, 77, 9, 228] 4 0 ∧ Keeps (fun k => k = r) w11 w') := by
    have h := ru32_yes HR11.out (by decide)
    rw [show Pl.num 4 (([5, 0, 0, 0, 0, 0, 0, 0, 192, 77, 9, 228] : List Nat).drop 0) = 5 from by decide] at h
    exact h
  go_wp2_with fail
  refine HPut.out.mono ?_
  rintro e w12 ⟨rfl, hr, hk⟩
  have HR12 : Hid (Rd w12 r g [5, 0, 0, 0, 0, 0, 0, 0, 192, 77, 9, 228] 4 0) := hr
  have HB12 : Hid (Below w.heap.size w w12) := HB11.out.trans (hk.below HB11.out.size (fun i _ e => by rw [e]; exact HRl.out))
  clear hr hk HR11 HB11 HW11 HPut
  go_wp2_with fail
  refine (rat_any HR12.out).mono ?_
  rintro e w' ⟨rfl, hw⟩
  rw [hw]
  clear hw w'
  go_wp2_with fail
  refine (end_some HR12.out (by decide)).mono ?_
  rintro e w13 ⟨rfl, hs⟩
  have HR13 : Hid (Rd w13 r g [5, 0, 0, 0, 0, 0, 0, 0, 192, 77, 9, 228] 4 0) := hs.rd HR12.out
  have HB13 : Hid (Below w.heap.size w w13) := HB12.out.trans (hs.2.mono HB12.out.size)
  clear hs HR12 HB12
  have HPut : Hid (Calls Tryd.prog 22 #[.pointer (some ⟨r, 0, none⟩), .int .i64 8] w13 fun e w' => e = .returned (.tuple #[]) ∧ Rd w' r g [5, 0, 0, 0, 0, 0, 0, 0, 192, 77, 9, 228] 8 0 ∧ Keeps (fun k => k = r) w13 w') := rpad_yes (al := 8) HR13.out (by decide) (by decide) (by decide) (by decide)
  go_wp2_with fail
  refine HPut.out.mono ?_
  rintro e w14 ⟨rfl, hr, hk⟩
  have HR14 : Hid (Rd w14 r g [5, 0, 0, 0, 0, 0, 0, 0, 192, 77, 9, 228] 8 0) := hr
  have HB14 : Hid (Below w.heap.size w w14) := HB13.out.trans (hk.below HB13.out.size (fun i _ e => by rw [e]; exact HRl.out))
  clear hr hk HR13 HB13 HPut
  have HT14 : Hid (Tab w14) := HT.out.below HB14.out
  have HPut : Hid (Calls Tryd.prog 23 #[.pointer (some ⟨r, 0, none⟩), .int .i64 0] w14 fun e w' => e = .returned (.tuple #[]) ∧ Rd w' r g [5, 0, 0, 0, 0, 0, 0, 0, 192, 77, 9, 228] 12 0 ∧ Keeps (fun k => k = r) w14 w') := rseal_yes (fr := 0) HT14.out HR14.out (by decide) (by decide) (by decide)
  go_wp2_with fail
  refine HPut.out.mono ?_
  rintro e w15 ⟨rfl, hr, hk⟩
  have HR15 : Hid (Rd w15 r g [5, 0, 0, 0, 0, 0, 0, 0, 192, 77, 9, 228] 12 0) := hr
  have HB15 : Hid (Below w.heap.size w w15) := HB14.out.trans (hk.below HB14.out.size (fun i _ e => by rw [e]; exact HRl.out))
  clear hr hk HR14 HB14 HPut HT14
  have HPut : Hid (Calls Tryd.prog 24 #[.pointer (some ⟨r, 0, none⟩)] w15 fun e w' => e = .returned (.int .i64 0) ∧ Stay w15 w') := rleft_any HR15.out
  go_wp2_with fail
  refine HPut.out.mono ?_
  rintro e w16 ⟨rfl, hs⟩
  have HR16 : Hid (Rd w16 r g [5, 0, 0, 0, 0, 0, 0, 0, 192, 77, 9, 228] 12 0) := hs.rd HR15.out
  have HB16 : Hid (Below w.heap.size w w16) := HB15.out.trans (hs.2.mono HB15.out.size)
  clear hs HR15 HB15 HPut
  go_wp2_with fail
  refine (rerr_any HR16.out).mono ?_
  rintro e w' ⟨rfl, hw⟩
  rw [hw]
  clear hw w'
  go_wp2_with fail
  refine (end_none HR16.out (by decide)).mono ?_
  rintro e w17 ⟨rfl, hs⟩
  have HB17 : Hid (Below w.heap.size w w17) := HB16.out.trans (hs.2.mono HB16.out.size)
  clear hs HR16 HB16
  go_wp2_with fail
  refine (newReader_any (sl_nil w17) (by decide)).mono ?_
  rintro e w18 ⟨r2, rfl, hlt, hr, hb⟩
  have HB18 : Hid (Below w.heap.size w w18) := HB17.out.trans (hb.mono HB17.out.size)
  have HR18 : Hid (Rd w18 r2 w17.heap.size [] 0 0) := hr
  clear hlt hr hb HB17
  go_wp2_with fail
  refine (end_none HR18.out (by decide)).mono ?_
  rintro e w19 ⟨rfl, hs⟩
  have HB19 : Hid (Below w.heap.size w w19) := HB18.out.trans (hs.2.mono HB18.out.size)
  clear hs HR18 HB18
  go_wp2
  go_ret
  exact ⟨rfl, HB19.out⟩
end Go.Proofs.YtphlfkkbkkocmaaDoor
