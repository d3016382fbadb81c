import Derived.Test.YtdkhhofgfbnmkaaGreatPf48
import Derived.Test.YtdkhhofgfbnmkaaGreatPf50
import Derived.Deep.DeepCutAuto
import Derived.Deep.RegionHeld3
import Derived.Test.YtdkhhofgfbnmkaaGreatPf19
import Derived.Test.YtdkhhofgfbnmkaaGreatPf35
/- WalkForeign: a step. Own work. -/
namespace Go.Proofs.YtdkhhofgfbnmkaaGreat
open Go.RowKit Go.Maps Go.Proofs.YtdkhhofgfbnmkaaGreat.Sp Wk Lv
set_option maxRecDepth 100000 in
set_option maxHeartbeats 4000000 in
theorem stept_lv {w0 wr : World} {base m v : Nat} {vr vd : Value} {rs ds : List Sp} {p : Ht} {n k : Nat} {nn : Int} {rt vt vl : Nat} (h : GMt w0 wr base m v vr vd rs ds p p n k) (ht : rt ≤ 18446744073709551615) (hn : n ≤ 4000000000000000000) (hk : k ≤ 4000000000000000000) :
    Calls Tryz.prog 8 #[.iface 46 (.agg #[.pointer (some ⟨m, 0, none⟩)]), .pointer (some ⟨v, 0, none⟩), .agg #[.int .i64 5, .int .u64 (rt : Int), .int .u64 (vt : Int), .int .u64 (vl : Int), .int .i64 nn]] wr (StepT w0 base m v vr vd rs ds p n k) := by
  obtain ⟨W1, hW1⟩ : ∃ W1, wr.alloc (Obj.cells #[.int .i64 5, .int .u64 (rt : Int), .int .u64 (vt : Int), .int .u64 (vl : Int), .int .i64 nn] 36) = W1 := ⟨_, rfl⟩
  have hb1 : Below wr.heap.size wr W1 := hW1 ▸ (Below.refl _ _).alloc (Nat.le_refl _) _
  have HO1 : Hid (OpAt W1 wr.heap.size 5 rt vt vl nn) := hW1 ▸ OpAt.new wr 5 rt vt vl nn
  have HG1 : Hid (GMt w0 W1 base m v vr vd rs ds p p n k) := h.below hb1
  have HC1 : Hid (∀ W, GMt w0 W base m v vr vd rs ds p p n k → Calls Tryz.prog 26 #[.iface 46 (.agg #[.pointer (some ⟨m, 0, none⟩)]), .pointer (some ⟨v, 0, none⟩), .agg #[.int .i64 5, .int .u64 (rt : Int), .int .u64 (vt : Int), .int .u64 (vl : Int), .int .i64 nn]] W fun e w' => e = .returned (.bool true) ∧ Hid (GMt w0 w' base m v vr vd rs ds p p (n + 4000) k)) := fun W hW => leaves_t hW ht hn hk
  clear h hb1
  obtain ⟨o0, o1, o2, o3, o4⟩ := HO1.out.cells
  go_enter Tryz.func8, Tryz.ntmps8
  go_wp2_with fail
  clear hW1
  refine (HC1.out W1 HG1.out).mono ?_
  rintro e w2 ⟨rfl, HG2⟩
  clear HC1 HO1 HG1 o0 o1 o2 o3 o4
  go_wp2_with fail
  go_ret
  exact ⟨rfl, p, Lib.hid (HG2.out.mono (by omega) (by omega)), by omega, by omega⟩
theorem stept_any {w0 wr : World} {base m v : Nat} {vr vd : Value} {rs ds : List Sp} {p : Ht} {n k : Nat} {kd nn : Int} {rt vt vl : Nat} (h : GMt w0 wr base m v vr vd rs ds p p n k) (ht : rt ≤ 18446744073709551615) (hv : vt ≤ 18446744073709551615) (hval : vl ≤ 18446744073709551615) (hn : n ≤ 4000000000000000000) (hk : k ≤ 4000000000000000000) (hL : p.2.1 ≤ 4000000000000000000) (hS : p.2.2.1 ≤ 4000000000000000000) :
    Calls Tryz.prog 8 #[.iface 46 (.agg #[.pointer (some ⟨m, 0, none⟩)]), .pointer (some ⟨v, 0, none⟩), .agg #[.int .i64 kd, .int .u64 (rt : Int), .int .u64 (vt : Int), .int .u64 (vl : Int), .int .i64 nn]] wr (StepT w0 base m v vr vd rs ds p n k) := by
  by_cases h1 : kd = 1
  · subst h1
    exact stept_tr h ht hv hn hk
  by_cases h2 : kd = 2
  · subst h2
    exact stept_ld h ht hn hk hL
  by_cases h3 : kd = 3
  · subst h3
    exact stept_st h ht hval hn hk hS
  by_cases h4 : kd = 4
  · subst h4
    exact stept_ft h ht hn hk hL
  by_cases h5 : kd = 5
  · subst h5
    exact stept_lv h ht hn hk
  by_cases h6 : kd = 6
  · subst h6
    exact stept_lay h hv hn hk hS
  exact stept_no h (by simpa using h1) (by simpa using h2) (by simpa using h3) (by simpa using h4) (by simpa using h5) (by simpa using h6)
end Go.Proofs.YtdkhhofgfbnmkaaGreat
/- The law's helpers: Within, Same; faults that are compared. Own work. -/
namespace Go.Proofs.YtdkhhofgfbnmkaaGreat
open Go.RowKit Go.Maps Go.Proofs.YtdkhhofgfbnmkaaGreat.Sp Wk
set_option maxRecDepth 100000 in
set_option maxHeartbeats 4000000 in
theorem within3_any {n : Int} (w : World) :
    Calls Tryz.prog 51 #[.int .i64 n, .int .i64 0, .int .i64 3] w fun e w' => ∃ r : Nat, e = .returned (.int .i64 (r : Int)) ∧ r ≤ 3 ∧ w' = w := by
  obtain ⟨q, hq⟩ : ∃ q, q = n.tmod 4 := ⟨_, rfl⟩
  have hq1 : -4 < q ∧ q < 4 := by
    have := Int.tmod_lt_of_pos n (b := 4) (by omega)
    have := Int.lt_tmod_of_pos n (b := 4) (by omega)
    omega
  go_enter Tryz.func51, Tryz.ntmps51
  go_wp2_with fail
  all_goals (go_ret; rw [← hq] at *)
  · exact ⟨(q + 3 + 1).toNat, by rw [Int.toNat_of_nonneg (by omega)]; rfl, by omega, rfl⟩
  · exact ⟨q.toNat, by rw [Int.toNat_of_nonneg (by omega)]; rfl, by omega, rfl⟩
set_option maxRecDepth 100000 in
set_option maxHeartbeats 4000000 in
theorem same_yes {w : World} {a b : Option Addr} {L : List Nat} {n c d : Nat} (ha : ∀ i, i < n → ∃ g, a = some ⟨g, 0, none⟩ ∧ g < w.heap.size ∧ w.cell? ⟨g, i, none⟩ = some (.int .u8 ((L.getD i 0 : Nat) : Int))) (hb : ∀ i, i < n → ∃ g, b = some ⟨g, 0, none⟩ ∧ g < w.heap.size ∧ w.cell? ⟨g, i, none⟩ = some (.int .u8 ((L.getD i 0 : Nat) : Int))) (hc : n ≤ c ∧ c ≤ 9223372036854775807) (hd : n ≤ d ∧ d ≤ 9223372036854775807) :
    Calls Tryz.prog 12 #[.slice a n c, .slice b n d] w fun e w' => e = .returned (.bool true) ∧ Below w.heap.size w w' := by
  have HA : Hid (∀ W, Below w.heap.size w W → ∀ i, i < n → ∃ g, a = some ⟨g, 0, none⟩ ∧ W.cell? ⟨g, i, none⟩ = some (.int .u8 ((L.getD i 0 : Nat) : Int))) := fun W hW i hi => by
    obtain ⟨g, e, h1, h2⟩ := ha i hi
    exact ⟨g, e, (hW.cell (p := ⟨g, i, none⟩) h1).trans h2⟩
  have HB : Hid (∀ W, Below w.heap.size w W → ∀ i, i < n → ∃ g, b = some ⟨g, 0, none⟩ ∧ W.cell? ⟨g, i, none⟩ = some (.int .u8 ((L.getD i 0 : Nat) : Int))) := fun W hW i hi => by
    obtain ⟨g, e, h1, h2⟩ := hb i hi
    exact ⟨g, e, (hW.cell (p := ⟨g, i, none⟩) h1).trans h2⟩
  have hbig : n ≤ 9223372036854775807 := by omega
  obtain ⟨hc1, hc2⟩ := hc
  obtain ⟨hd1, hd2⟩ := hd
  clear ha hb
  go_enter Tryz.func12, Tryz.ntmps12
  go_wp2_with fail
  go_loopw [5] (fun x wr => ∃ (i : Nat), i ≤ n ∧ x = .int .i64 (i : Int) ∧ Hid (Below w.heap.size w wr)) (fun x _ => match x with | .int _ z => n - z.toNat | _ => 0)
  case atStart => exact ⟨0, by omega, rfl, Below.refl _ _⟩
  case round =>
    obtain ⟨i, hi, rfl, HK⟩ := hrel
    by_cases hlt : i < n
    · obtain ⟨g, rfl, h1⟩ := HA.out wr HK.out i hlt
      obtain ⟨g', rfl, h2⟩ := HB.out wr HK.out i hlt
      generalize L.getD i 0 = z at h1 h2
      go_wp2_with fail
      go_region
      go_wp2_with fail
      go_roundw
      case rel => exact ⟨i + 1, by omega, by go_num, HK.out.drew⟩
      case measure => simp; omega
    · obtain rfl : i = n := by omega
      go_wp2_with fail
      go_ret
      exact ⟨rfl, HK.out⟩
theorem neqF (w : World) (a b : Int) : (binOp .neq 57 (.agg #[.int .i64 a, .int .u64 b]) (.agg #[.int .i64 a, .int .u64 b])).run Tryz.prog w = .ok (.bool false) w := by
  have u1 := Tryz.underlying55
  have a1 := Tryz.isAgg55
  have z1 := Tryz.sizeOf55
  have u := Tryz.underlying34
  have a2 := Tryz.isAgg34
  have z := Tryz.sizeOf34
  have hS : Tryz.prog.underlying 57 = some (.struct (Tryz.prog.fieldsOf 57)) := by kernel_rfl
  have hp : Tryz.prog.stoodInHeld 57 = false := by kernel_rfl
  rw [run_neq_struct, show (10000 : Nat) = 9999 + 1 from rfl, run_equalIn_agg w 9999 57 _ _ hS hp]
  simp only [Program.fieldsOf, Tryz.underlying57]
  go_simp
theorem four_cells (w : World) (q : Nat) (hq : q ≤ 3) : ∃ k : Nat, Wide k ∧ (w.alloc (Obj.cells #[.int .i64 1, .int .i64 2, .int .i64 4, .int .i64 8] 3)).cell? ⟨w.heap.size, q, none⟩ = some (.int .i64 (k : Int)) := by
  have hc := cell_of_row (w.alloc (Obj.cells #[.int .i64 1, .int .i64 2, .int .i64 4, .int .i64 8] 3)) w.heap.size q _ _ _ (heap_alloc_new w _)
  rcases (by omega : q = 0 ∨ q = 1 ∨ q = 2 ∨ q = 3) with rfl | rfl | rfl | rfl
  · exact ⟨1, .inl rfl, hc⟩
  · exact ⟨2, .inr (.inl rfl), hc⟩
  · exact ⟨4, .inr (.inr (.inl rfl)), hc⟩
  · exact ⟨8, .inr (.inr (.inr rfl)), hc⟩
end Go.Proofs.YtdkhhofgfbnmkaaGreat
