/- WordWrites: step. Own work. -/
import Derived.Test.YtceljnkbkpgdjaaDoorWwTell
import Derived.Test.YtceljnkbkpgdjaaDoorWwFar
namespace Go.Proofs.YtceljnkbkpgdjaaDoor
open Go.RowKit Go.Shelf
set_option linter.unusedVariables false
set_option maxRecDepth 100000 in
set_option maxHeartbeats 1000000 in
theorem bookWithin_any {n : Int} {hi : Nat} (hh : hi ≤ 1048576) (w : World) :
    Calls Tryd.prog 15 #[.int .i64 n, .int .i64 0, .int .i64 (hi : Int)] w fun e w' => ∃ r : Nat, e = .returned (.int .i64 (r : Int)) ∧ r ≤ hi ∧ w' = w := by
  obtain ⟨q, hq⟩ : ∃ q, q = n.tmod ((hi : Int) + 1) := ⟨_, rfl⟩
  have hq1 : -((hi : Int) + 1) < q ∧ q < (hi : Int) + 1 := by
    have := Int.tmod_lt_of_pos n (b := (hi : Int) + 1) (by omega)
    have := Int.lt_tmod_of_pos n (b := (hi : Int) + 1) (by omega)
    omega
  have hne : (hi : Int) + 1 ≠ 0 := by omega
  go_enter Tryd.func15, Tryd.ntmps15
  go_wp2_with fail
  all_goals (go_ret; rw [← hq] at *)
  · exact ⟨(q + hi + 1).toNat, by rw [Int.toNat_of_nonneg (by omega)]; rfl, by omega, rfl⟩
  · exact ⟨q.toNat, by rw [Int.toNat_of_nonneg (by omega)]; rfl, by omega, rfl⟩
theorem info_pw : (Tryd.prog.info? 51).map (fun i => (i.zero, i.size, i.bytes)) = some (some (.pointer none), 1, 8) := by kernel_rfl
theorem info_pr : (Tryd.prog.info? 53).map (fun i => (i.zero, i.size, i.bytes)) = some (some (.pointer none), 1, 8) := by kernel_rfl
theorem Wr.weak {w : World} {p b1 b2 : Nat} {v : Value} {zs : List Nat} {why : Int} (h : Wr w p v zs why b1) (hb : b2 ≤ b1) : Wr w p v zs why b2 := ⟨h.1, h.2.1.weak hb, h.2.2⟩
set_option maxRecDepth 100000 in
set_option maxHeartbeats 4000000 in
theorem step_new {w0 w : World} {X : Nat} {c : Nat → Nat} {L : List Wi} {pos num : Int} {n : Nat} {pa : Option Addr} {pl pc : Nat} {s : ByteArray} (h : Ws w0 X c L w) (hL : L.length ≤ 1048000) :
    Calls Tryd.prog 6 #[.pointer (some ⟨X, 0, none⟩), .agg #[.int .i64 10, .int .i64 pos, .int .u64 (n : Int), .int .i64 num, .slice pa pl pc, .string s]] w fun e w' => e = .returned (.bool true) ∧ ∃ c' p r, Ws w0 X c' (L ++ [⟨p, r, .slice none 0 0, .slice none 0 0, [], 0⟩]) w' := by
  have hf := h.fresh
  obtain ⟨c1, hc1⟩ : ∃ c1 : Nat → Nat, c1 = fun q => if q < w.heap.size then c q else 1 := ⟨_, rfl⟩
  rw [← hc1] at hf
  have HC1 : Hid (∀ k, w.heap.size ≤ k → c1 k = 1) := fun k hk => by rw [hc1]; exact if_neg (by omega)
  have HF := Lib.hid hf
  have HSz : Hid (w0.heap.size ≤ w.heap.size) := h.size
  have hba : Below w.heap.size w (w.alloc (.cells #[.int .i64 10, .int .i64 pos, .int .u64 (n : Int), .int .i64 num, .slice pa pl pc, .string s] 36)) := (Below.refl _ _).alloc (Nat.le_refl _) _
  have HBa := Lib.hid hba
  have HNw := Lib.hid (newWriter_any (w.alloc (.cells #[.int .i64 10, .int .i64 pos, .int .u64 (n : Int), .int .i64 num, .slice pa pl pc, .string s] 36)))
  have hsz : (w.alloc (.cells #[.int .i64 10, .int .i64 pos, .int .u64 (n : Int), .int .i64 num, .slice pa pl pc, .string s] 36)).heap.size = w.heap.size + 1 := by simp
  rw [hsz] at HNw
  obtain ⟨A, B, hm⟩ := hf.wm
  obtain ⟨aa, ac, rfl⟩ := hm.ra.form
  obtain ⟨ba, bc, rfl⟩ := hm.rb.form
  simp only [List.length_map] at hm
  have HM := Lib.hid hm
  obtain ⟨m, hmL⟩ : ∃ m, L.length = m := ⟨_, rfl⟩
  have HmL := Lib.hid hmL
  rw [hmL] at HM hL
  clear h hf hba hm hc1 hmL
  go_enter Tryd.func6, Tryd.ntmps6
  go_wp2_with fail
  refine HNw.out.mono ?_
  rintro e w1 ⟨rfl, hw1, hb1⟩
  have hb1' : Below w.heap.size w w1 := HBa.out.trans (hb1.mono (by omega))
  have HW1 : Hid (Wr w1 (w.heap.size + 1) (.slice none 0 0) [] 0 w0.heap.size) := hw1.weak (by have := HSz.out; omega)
  have HM1 := Lib.hid (HM.out.of_below hb1')
  obtain ⟨x0, x1, xl, xt⟩ := HM1.out.cells
  have HSz1 : Hid (w.heap.size + 1 < w1.heap.size) := hw1.lt
  have HSw : Hid (w0.heap.size ≤ w1.heap.size) := HM1.out.size
  clear hw1 hb1 hb1' HNw HM
  have HRa : Hid (∀ Y, RowV (w1.alloc Y) w0.heap.size 51 (.slice aa m ac) (L.map ptrP)) := fun Y => HM1.out.ra.keeps (S := fun _ => False) (Keeps.alloc w1 Y) (fun _ _ => id)
  have HCl : Hid (∀ (y : Value) t, (w1.alloc (.cells #[y] t)).cell? ⟨w1.heap.size, 0, none⟩ = some y) := fun y t => by rw [cell_of_row _ _ 0 _ _ _ (heap_alloc_new w1 _)]; rfl
  have HLn : Hid ((L.map ptrP).length ≤ 1048576) := show _ ≤ _ by rw [List.length_map, HmL.out]; omega
  have HA : Hid (∀ Y V w2, (w1.alloc Y).grownBy w2 (Value.slice aa m ac).ownBlock → RowV w2 w0.heap.size 51 V (L.map ptrP ++ [.pointer (some ⟨w.heap.size + 1, 0, none⟩)]) → Wm w0 X c1 L (L.map ptrP ++ [.pointer (some ⟨w.heap.size + 1, 0, none⟩)]) (L.map ptrR) V (.slice ba m bc) (w2.setCell ⟨X, 0, none⟩ V) ∧ w2.cell? ⟨X, 0, none⟩ = some (.slice aa m ac) ∧ w2.frozen? ⟨X, 0, none⟩ = false ∧ Wr (w2.setCell ⟨X, 0, none⟩ V) (w.heap.size + 1) (.slice none 0 0) [] 0 w0.heap.size ∧ w1.heap.size ≤ (w2.setCell ⟨X, 0, none⟩ V).heap.size) := by
    intro Y V w2 hg hr
    have hbY : Below w1.heap.size w1 (w1.alloc Y) := (Below.refl _ _).alloc (Nat.le_refl _) _
    obtain ⟨k1, k2, k3, k4⟩ := (HM1.out.of_below hbY).appA hg hr
    have hwY := HW1.out.keeps (S := fun _ => False) (Keeps.alloc w1 Y) id (fun _ _ => id)
    refine ⟨k1, k2, k3, hwY.keeps k4 ?_ (fun _ e => by cases e), Nat.le_trans hbY.size k4.size⟩
    have tW : Tg (w1.alloc Y) (w.heap.size + 1) 73 := ⟨_, hwY.1⟩
    rintro (e | e)
    · obtain ⟨lv, wv, held, E, b, _⟩ := (HM1.out.of_below hbY).rows
      rw [e] at tW
      exact tW.ne ⟨_, b.blk⟩ (by decide)
    · exact tW.ne ((HM1.out.of_below hbY).ra.tg _ e) (by decide)
  go_upto_region 6 with (refine wpList_appP (base := w0.heap.size) (vs := L.map ptrP) (y := .pointer (some ⟨w.heap.size + 1, 0, none⟩)) (g := w1.heap.size) (cap := 1) (by rfl) (.tmp 18) (.tmp 20) Tryd.underlying25 info_pw (by rfl) (by exact HRa.out _) (by rfl) (by rfl) (by exact HCl.out _ _) (by rfl) (by exact HLn.out) (by have := HSw.out; simp; omega) ?_; intro va1 vc1 w2 hr2 hg2 hl2; have HA2 := Lib.hid (HA.out _ _ _ hg2 hr2); have e0 := HA2.out.2.1; have z0 := HA2.out.2.2.1; clear hr2 hg2 hl2)
  simp only [List.length_map] at HA2
  obtain ⟨V1, hV1⟩ : ∃ V1, Value.slice va1 (m + 1) vc1 = V1 := ⟨_, rfl⟩
  simp only [HmL.out] at HA2 ⊢
  rw [hV1] at HA2 ⊢
  obtain ⟨W3, hW3⟩ : ∃ W3, w2.setCell ⟨X, 0, none⟩ V1 = W3 := ⟨_, rfl⟩
  rw [hW3] at HA2 ⊢
  have HM3 := Lib.hid HA2.out.1
  have HW3 := Lib.hid HA2.out.2.2.2.1
  have HSz3 := Lib.hid HA2.out.2.2.2.2
  clear HA2 e0 z0 hW3 hV1 HA HRa HCl HLn x0 x1 xl xt
  obtain ⟨y0, y1, yl, yt⟩ := HM3.out.cells
  have y11 := yt 1
  have HSw3 : Hid (w0.heap.size ≤ W3.heap.size) := HM3.out.size
  have HRb : Hid (∀ Y Z, RowV ((W3.alloc Y).alloc Z) w0.heap.size 53 (.slice ba m bc) (L.map ptrR)) := fun Y Z => (HM3.out.rb.keeps (S := fun _ => False) (Keeps.alloc W3 Y) (fun _ _ => id)).keeps (S := fun _ => False) (Keeps.alloc _ Z) (fun _ _ => id)
  have HCl : Hid (∀ Y (y : Value) t, ((W3.alloc Y).alloc (.cells #[y] t)).cell? ⟨W3.heap.size + 1, 0, none⟩ = some y) := fun Y y t => by
    have := cell_of_row _ _ 0 _ _ _ (heap_alloc_new (W3.alloc Y) (.cells #[y] t))
    rw [show (W3.alloc Y).heap.size = W3.heap.size + 1 by simp] at this
    rw [this]; rfl
  have HLn : Hid ((L.map ptrR).length ≤ 1048576) := show _ ≤ _ by rw [List.length_map, HmL.out]; omega
  have HFin : Hid (∀ Z V w4, ((W3.alloc (.cells #[.slice none 0 0, .int .i64 0] 55)).alloc Z).grownBy w4 (Value.slice ba m bc).ownBlock → RowV w4 w0.heap.size 53 V (L.map ptrR ++ [.pointer (some ⟨W3.heap.size, 0, none⟩)]) → w4.cell? ⟨X, 1, none⟩ = some (.slice ba m bc) ∧ w4.frozen? ⟨X, 1, none⟩ = false ∧ ∃ c' p r, Ws w0 X c' (L ++ [⟨p, r, .slice none 0 0, .slice none 0 0, [], 0⟩]) (w4.setCell ⟨X, 1, none⟩ V)) := by
    intro Z V w4 hg hr
    have hb1 : Below W3.heap.size W3 (W3.alloc (.cells #[.slice none 0 0, .int .i64 0] 55)) := (Below.refl _ _).alloc (Nat.le_refl _) _
    have hb2 : Below W3.heap.size W3 ((W3.alloc (.cells #[.slice none 0 0, .int .i64 0] 55)).alloc Z) := hb1.alloc hb1.size _
    have hx0 : Rw (W3.alloc (.cells #[.slice none 0 0, .int .i64 0] 55)) W3.heap.size (.slice none 0 0) [] 0 w0.heap.size := ⟨heap_alloc_new W3 _, own_nil _ _, by simp [Value.ownBlock], by simp⟩
    have hx := hx0.keeps (S := fun _ => False) (Keeps.alloc _ Z) id (fun _ _ => id)
    have hw := HW3.out.keeps (S := fun _ => False) (Keeps.of_below hb2) id (fun _ _ => id)
    have hm2 := HM3.out.of_below hb2
    obtain ⟨k1, k2, k3, k4⟩ := hm2.appB hg hr
    obtain ⟨lv, wv, held, E, b, _⟩ := hm2.rows
    have tW : Tg ((W3.alloc (.cells #[.slice none 0 0, .int .i64 0] 55)).alloc Z) (w.heap.size + 1) 73 := ⟨_, hw.1⟩
    have tR : Tg ((W3.alloc (.cells #[.slice none 0 0, .int .i64 0] 55)).alloc Z) W3.heap.size 55 := ⟨_, hx.1⟩
    refine ⟨k2, k3, ?_⟩
    obtain ⟨c', hc'⟩ := Wm.more (m := w.heap.size) (p := w.heap.size + 1) (r := W3.heap.size) k1 HC1.out (by omega) (by have := HSz1.out; have := HSz3.out; omega) (by have := HSz1.out; have := HSz3.out; omega) HSz.out (hw.keeps k4 (by
      rintro (e | e)
      · rw [e] at tW; exact tW.ne ⟨_, b.blk⟩ (by decide)
      · exact tW.ne (hm2.rb.tg _ e) (by decide)) (fun _ e => by cases e)) (hx.keeps k4 (by
      rintro (e | e)
      · rw [e] at tR; exact tR.ne ⟨_, b.blk⟩ (by decide)
      · exact tR.ne (hm2.rb.tg _ e) (by decide)) (fun _ e => by cases e))
    exact ⟨c', _, _, hc'⟩
  go_wp2_with (refine wpList_appP (base := w0.heap.size) (vs := L.map ptrR) (y := .pointer (some ⟨W3.heap.size, 0, none⟩)) (g := W3.heap.size + 1) (cap := 1) (by rfl) (.tmp 28) (.tmp 31) Tryd.underlying26 info_pr (by rfl) (by exact HRb.out _ _) (by rfl) (by rfl) (by exact HCl.out _ _ _) (by rfl) (by exact HLn.out) (by have := HSw3.out; simp; omega) ?_; intro va2 vc2 w4 hr4 hg4 hl4; have HA4 := Lib.hid (HFin.out _ _ _ hg4 hr4); have e0 := HA4.out.1; have z0 := HA4.out.2.1; clear hr4 hg4 hl4)
  go_ret
  have h9 := HA4.out.2.2
  rw [List.length_map] at h9
  exact ⟨rfl, h9⟩
end Go.Proofs.YtceljnkbkpgdjaaDoor
