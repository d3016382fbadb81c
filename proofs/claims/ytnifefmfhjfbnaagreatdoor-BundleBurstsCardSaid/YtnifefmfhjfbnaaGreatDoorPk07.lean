import Derived.Test.YtnifefmfhjfbnaaGreatDoorPk06
/- Bundle: what the layer lays down, one by one. Own work. -/
namespace Go.Proofs.YtnifefmfhjfbnaaGreatDoor
open Go.RowKit
set_option linter.unusedVariables false
set_option linter.unusedSimpArgs false
section
variable {B kb : Nat} {im : List Value} {o : Option Nat} {en : List Value} {w0 : World} {n : Nat} {zs : List Nat} {why : Int} {w : World}
set_option maxRecDepth 100000 in
set_option maxHeartbeats 4000000 in
theorem ask_any (h : St B kb im o en w0 n zs why w) (b : Bool) (no : Int) : Calls Tryz.prog 110 #[.pointer (some ⟨kb, 0, none⟩), .bool b, .int .i64 no] w fun e w' => e = .returned (.tuple #[]) ∧ St B kb im o en w0 n zs (askF why b no) w' := by
 have HS := Lib.hid h
 obtain ⟨c12, c13, c59⟩ := h.cells
 have f59 := h.free 59
 have HS2 := Lib.hid (h.setWhy no)
 clear h
 cases b with
 | true =>
  go_enter Tryz.func110, Tryz.ntmps110
  go_wp2_with fail
  go_end0
  exact ⟨rfl, HS.out⟩
 | false =>
  by_cases hy : why = 132
  ·subst hy
   go_enter Tryz.func110, Tryz.ntmps110
   go_wp2_with fail
   go_end0
   exact ⟨rfl, HS.out⟩
  ·go_enter Tryz.func110, Tryz.ntmps110
   go_wp2_with fail
   go_end0
   refine ⟨rfl, ?_⟩
   rw [show askF why false no = no by unfold askF; rw [if_pos ⟨rfl, hy⟩]]
   exact HS2.out
set_option maxRecDepth 100000 in
set_option maxHeartbeats 4000000 in
theorem field_any (h : St B kb im o en w0 n zs why w) (b : Bool) : Calls Tryz.prog 59 #[.pointer (some ⟨kb, 0, none⟩), .bool b] w fun e w' => e = .returned (.tuple #[]) ∧ St B kb im o en w0 n zs (fieldF why b) w' := by
 have HA := Lib.hid (ask_any h b 132)
 rw [field_ask] at HA
 clear h
 go_enter Tryz.func59, Tryz.ntmps59
 go_wp2_with fail
 refine HA.out.mono ?_
 rintro e w1 ⟨rfl, h1⟩
 have H1 := Lib.hid h1
 clear h1 HA
 go_wp2_with fail
 go_end0
 exact ⟨rfl, H1.out⟩
/-- what the Writer does, where there is one -/
theorem St.wr {p : Nat} (h : St B kb im (some p) en w0 n zs why w) : ∃ v, Wr w p v zs 0 B ∧ p ≠ kb ∧ B ≤ p := h.out p rfl
def I64R (n : Int) : Prop := -9223372036854775808 ≤ n ∧ n ≤ 9223372036854775807
def noneB (n : Int) : Bool := decide (-1 ≤ n) && decide (n < 65535)
def fitB (lo hi n : Int) : Bool := decide (lo ≤ n) && decide (n ≤ hi)
set_option maxRecDepth 100000 in
set_option maxHeartbeats 8000000 in
theorem byte_any (h : St B kb im o en w0 zs.length zs why w) {k : Int} (hk : I64R k) (hl : zs.length ≤ 274877906944) : Calls Tryz.prog 63 #[.pointer (some ⟨kb, 0, none⟩), .int .i64 k] w fun e w' => e = .returned (.tuple #[]) ∧ St B kb im o en w0 (zs ++ Pl.le 1 (k % 256).toNat).length (zs ++ Pl.le 1 (k % 256).toNat) (fieldF why (fitB 0 255 k)) w' := by
 obtain ⟨hk1, hk2⟩ := hk
 obtain ⟨m, hm⟩ : ∃ m : Nat, (k % 256).toNat = m := ⟨_, rfl⟩
 have hm2 : m ≤ 255 := by omega
 have hw : IntKind.u8.wrap k = (m : Int) := by rw [IntKind.wrap_u8']; omega
 have HF := Lib.hid (field_any h (fitB 0 255 k))
 obtain ⟨y, hy⟩ : ∃ y, fieldF why (fitB 0 255 k) = y := ⟨_, rfl⟩
 rw [hm]
 rw [hy] at HF ⊢
 have HLz : Hid (zs.length ≤ 274877906944) := hl
 have hb0 : (fitB 0 255 k = (decide ((0 : Int) ≤ k) && decide (k ≤ 255))) := rfl
 rw [hb0] at HF
 have hw1 : IntKind.i64.wrap ((zs.length : Int) + 1) = ((zs.length + 1 : Nat) : Int) := by rw [IntKind.wrap_i64]; omega
 have HLe : Hid ((zs ++ Pl.le 1 m).length = zs.length + 1) := show _ = _ by rw [List.length_append, Pl.le_length]
 have HSm : Hid (∀ z ∈ Pl.le 1 m, z < 256) := Pl.le_small 1 m
 have HFin : Hid (∀ W, St B kb im o en w0 (zs.length + 1) (zs ++ Pl.le 1 m) y W → St B kb im o en w0 (zs ++ Pl.le 1 m).length (zs ++ Pl.le 1 m) y W) := fun W hW => by rw [HLe.out]; exact hW
 have HRest : Hid (∀ w1, St B kb im o en w0 zs.length zs y w1 → w1.cell? ⟨kb, 12, none⟩ = some (outV o) ∧ w1.cell? ⟨kb, 13, none⟩ = some (.int .i64 (zs.length : Int)) ∧ w1.frozen? ⟨kb, 13, none⟩ = false ∧ St B kb im o en w0 (zs.length + 1) zs y (w1.setCell ⟨kb, 13, none⟩ (.int .i64 ((zs.length + 1 : Nat) : Int)))) := fun w1 h1 => ⟨h1.cells.1, h1.cells.2.1, h1.free 13, h1.setAt _⟩
 clear h hm hy hb0 hl
 obtain ⟨L, hL⟩ : ∃ L, zs.length = L := ⟨_, rfl⟩
 rw [hL] at hw1 HF HLe HFin HRest
 clear hL
 cases o with
 | none =>
  simp only [outV, Option.map] at HRest
  by_cases h0 : 0 ≤ k
  ·by_cases h1 : k ≤ 255
   all_goals
    simp only [h0, h1, decide_true, decide_false, Bool.and_true, Bool.and_false, Bool.true_and, Bool.false_and] at HF
    go_enter Tryz.func63, Tryz.ntmps63
    go_wp2_with fail
    refine HF.out.mono ?_
    rintro e w1 ⟨rfl, h1⟩
    obtain ⟨c12, c13, f13, h2⟩ := HRest.out w1 h1
    have H2 := Lib.hid h2
    clear h1 h2 HF HRest
    go_wp2_with fail
    go_end0
    exact ⟨rfl, HFin.out _ (H2.out.ghost HSm.out)⟩
  ·simp only [h0, decide_false, Bool.false_and] at HF
   go_enter Tryz.func63, Tryz.ntmps63
   go_wp2_with fail
   refine HF.out.mono ?_
   rintro e w1 ⟨rfl, h1⟩
   obtain ⟨c12, c13, f13, h2⟩ := HRest.out w1 h1
   have H2 := Lib.hid h2
   clear h1 h2 HF HRest
   go_wp2_with fail
   go_end0
   exact ⟨rfl, HFin.out _ (H2.out.ghost HSm.out)⟩
 | some p =>
  simp only [outV, Option.map] at HRest
  by_cases h0 : 0 ≤ k
  ·by_cases h1 : k ≤ 255
   all_goals
    simp only [h0, h1, decide_true, decide_false, Bool.and_true, Bool.and_false, Bool.true_and, Bool.false_and] at HF
    go_enter Tryz.func63, Tryz.ntmps63
    go_wp2_with fail
    refine HF.out.mono ?_
    rintro e w1 ⟨rfl, h1⟩
    obtain ⟨c12, c13, f13, h2⟩ := HRest.out w1 h1
    have H2 := Lib.hid h2
    have c12' : (w1.setCell ⟨kb, 13, none⟩ (.int .i64 ((L + 1 : Nat) : Int))).cell? ⟨kb, 12, none⟩ = some (.pointer (some ⟨p, 0, none⟩)) := h2.cells.1
    clear h1 h2 HF HRest
    go_wp2_with fail
    obtain ⟨v, hv, hp, hB⟩ := H2.out.wr
    refine (put_u8 hv hm2 (by have := HLz.out; omega) H2.out.le).mono ?_
    rintro e w3 ⟨rfl, v', hv', hk', _⟩
    have H3 := Lib.hid (HFin.out _ (H2.out.put hv hp hB hv' hk'))
    clear hv hv' hk' H2
    go_wp2_with fail
    go_end0
    exact ⟨rfl, H3.out⟩
  ·simp only [h0, decide_false, Bool.false_and] at HF
   go_enter Tryz.func63, Tryz.ntmps63
   go_wp2_with fail
   refine HF.out.mono ?_
   rintro e w1 ⟨rfl, h1⟩
   obtain ⟨c12, c13, f13, h2⟩ := HRest.out w1 h1
   have H2 := Lib.hid h2
   have c12' : (w1.setCell ⟨kb, 13, none⟩ (.int .i64 ((L + 1 : Nat) : Int))).cell? ⟨kb, 12, none⟩ = some (.pointer (some ⟨p, 0, none⟩)) := h2.cells.1
   clear h1 h2 HF HRest
   go_wp2_with fail
   obtain ⟨v, hv, hp, hB⟩ := H2.out.wr
   refine (put_u8 hv hm2 (by have := HLz.out; omega) H2.out.le).mono ?_
   rintro e w3 ⟨rfl, v', hv', hk', _⟩
   have H3 := Lib.hid (HFin.out _ (H2.out.put hv hp hB hv' hk'))
   clear hv hv' hk' H2
   go_wp2_with fail
   go_end0
   exact ⟨rfl, H3.out⟩
set_option maxRecDepth 100000 in
set_option maxHeartbeats 8000000 in
theorem putHalf_any (h : St B kb im o en w0 zs.length zs why w) {m : Nat} (hm : m ≤ 65535) (hl : zs.length ≤ 274877906944) : Calls Tryz.prog 111 #[.pointer (some ⟨kb, 0, none⟩), .int .u16 (m : Int)] w fun e w' => e = .returned (.tuple #[]) ∧ St B kb im o en w0 (zs ++ Pl.le 2 m).length (zs ++ Pl.le 2 m) why w' := by
 have hw1 : IntKind.i64.wrap ((zs.length : Int) + 2) = ((zs.length + 2 : Nat) : Int) := by rw [IntKind.wrap_i64]; omega
 have HLe : Hid ((zs ++ Pl.le 2 m).length = zs.length + 2) := show _ = _ by rw [List.length_append, Pl.le_length]
 have HSm : Hid (∀ z ∈ Pl.le 2 m, z < 256) := Pl.le_small 2 m
 have HLz : Hid (zs.length ≤ 274877906944) := hl
 have HFin : Hid (∀ W, St B kb im o en w0 (zs.length + 2) (zs ++ Pl.le 2 m) why W → St B kb im o en w0 (zs ++ Pl.le 2 m).length (zs ++ Pl.le 2 m) why W) := fun W hW => by rw [HLe.out]; exact hW
 obtain ⟨c12, c13, c59⟩ := h.cells
 have f13 := h.free 13
 have H2 := Lib.hid (h.setAt (zs.length + 2))
 have c12' := (h.setAt (zs.length + 2)).cells.1
 clear h hl
 obtain ⟨L, hL⟩ : ∃ L, zs.length = L := ⟨_, rfl⟩
 rw [hL] at hw1 HLe HFin H2 c13 c12'
 clear hL
 cases o with
 | none =>
  simp only [outV, Option.map] at c12 c12'
  go_enter Tryz.func111, Tryz.ntmps111
  go_wp2_with fail
  go_end0
  exact ⟨rfl, HFin.out _ (H2.out.ghost HSm.out)⟩
 | some p =>
  simp only [outV, Option.map] at c12 c12'
  go_enter Tryz.func111, Tryz.ntmps111
  go_wp2_with fail
  obtain ⟨v, hv, hp, hB⟩ := H2.out.wr
  refine (put_u16 hv hm (by have := HLz.out; omega) H2.out.le).mono ?_
  rintro e w3 ⟨rfl, v', hv', hk', _⟩
  have H3 := Lib.hid (HFin.out _ (H2.out.put hv hp hB hv' hk'))
  clear hv hv' hk' H2
  go_wp2_with fail
  go_end0
  exact ⟨rfl, H3.out⟩
set_option maxRecDepth 100000 in
set_option maxHeartbeats 8000000 in
theorem half_any (h : St B kb im o en w0 zs.length zs why w) {k : Int} (hk : I64R k) (hl : zs.length ≤ 274877906944) : Calls Tryz.prog 60 #[.pointer (some ⟨kb, 0, none⟩), .int .i64 k] w fun e w' => e = .returned (.tuple #[]) ∧ St B kb im o en w0 (zs ++ Pl.le 2 (k % 65536).toNat).length (zs ++ Pl.le 2 (k % 65536).toNat) (fieldF why (fitB 0 65535 k)) w' := by
 obtain ⟨hk1, hk2⟩ := hk
 obtain ⟨m, hm⟩ : ∃ m : Nat, (k % 65536).toNat = m := ⟨_, rfl⟩
 have hm2 : m ≤ 65535 := by omega
 have hw : IntKind.u16.wrap k = (m : Int) := by rw [IntKind.wrap_u16]; omega
 have HF := Lib.hid (field_any h (fitB 0 65535 k))
 obtain ⟨y, hy⟩ : ∃ y, fieldF why (fitB 0 65535 k) = y := ⟨_, rfl⟩
 rw [hm]
 rw [hy] at HF ⊢
 have HLz : Hid (zs.length ≤ 274877906944) := hl
 have hb0 : (fitB 0 65535 k = (decide ((0 : Int) ≤ k) && decide (k ≤ 65535))) := rfl
 rw [hb0] at HF
 have HP : Hid (∀ W, St B kb im o en w0 zs.length zs y W → Calls Tryz.prog 111 #[.pointer (some ⟨kb, 0, none⟩), .int .u16 (m : Int)] W fun e w' => e = .returned (.tuple #[]) ∧ St B kb im o en w0 (zs ++ Pl.le 2 m).length (zs ++ Pl.le 2 m) y w') := fun W hW => putHalf_any hW hm2 hl
 clear h hm hy hb0 hl
 by_cases h0 : 0 ≤ k
 ·by_cases h1 : k ≤ 65535
  all_goals
   simp only [h0, h1, decide_true, decide_false, Bool.and_true, Bool.and_false, Bool.true_and, Bool.false_and] at HF
   go_enter Tryz.func60, Tryz.ntmps60
   go_wp2_with fail
   refine HF.out.mono ?_
   rintro e w1 ⟨rfl, h1⟩
   have H1 := Lib.hid h1
   clear h1 HF
   go_wp2_with fail
   refine (HP.out _ H1.out).mono ?_
   rintro e w3 ⟨rfl, h3⟩
   have H3 := Lib.hid h3
   clear h3 H1 HP
   go_wp2_with fail
   go_end0
   exact ⟨rfl, H3.out⟩
 ·simp only [h0, decide_false, Bool.false_and] at HF
  go_enter Tryz.func60, Tryz.ntmps60
  go_wp2_with fail
  refine HF.out.mono ?_
  rintro e w1 ⟨rfl, h1⟩
  have H1 := Lib.hid h1
  clear h1 HF
  go_wp2_with fail
  refine (HP.out _ H1.out).mono ?_
  rintro e w3 ⟨rfl, h3⟩
  have H3 := Lib.hid h3
  clear h3 H1 HP
  go_wp2_with fail
  go_end0
  exact ⟨rfl, H3.out⟩
set_option maxRecDepth 100000 in
set_option maxHeartbeats 8000000 in
theorem orNone_any (h : St B kb im o en w0 zs.length zs why w) {k : Int} (hk : I64R k) (hl : zs.length ≤ 274877906944) : Calls Tryz.prog 65 #[.pointer (some ⟨kb, 0, none⟩), .int .i64 k] w fun e w' => e = .returned (.tuple #[]) ∧ St B kb im o en w0 (zs ++ Pl.le 2 (k % 65536).toNat).length (zs ++ Pl.le 2 (k % 65536).toNat) (fieldF why (noneB k)) w' := by
 obtain ⟨hk1, hk2⟩ := hk
 obtain ⟨m, hm⟩ : ∃ m : Nat, (k % 65536).toNat = m := ⟨_, rfl⟩
 have hm2 : m ≤ 65535 := by omega
 have hw : IntKind.u16.wrap k = (m : Int) := by rw [IntKind.wrap_u16]; omega
 have HF := Lib.hid (field_any h (noneB k))
 obtain ⟨y, hy⟩ : ∃ y, fieldF why (noneB k) = y := ⟨_, rfl⟩
 rw [hm]
 rw [hy] at HF ⊢
 have HLz : Hid (zs.length ≤ 274877906944) := hl
 have hb0 : (noneB k = (decide ((-1 : Int) ≤ k) && decide (k < 65535))) := rfl
 rw [hb0] at HF
 have HP : Hid (∀ W, St B kb im o en w0 zs.length zs y W → Calls Tryz.prog 111 #[.pointer (some ⟨kb, 0, none⟩), .int .u16 (m : Int)] W fun e w' => e = .returned (.tuple #[]) ∧ St B kb im o en w0 (zs ++ Pl.le 2 m).length (zs ++ Pl.le 2 m) y w') := fun W hW => putHalf_any hW hm2 hl
 clear h hm hy hb0 hl
 by_cases h0 : -1 ≤ k
 ·by_cases h1 : k < 65535
  all_goals
   simp only [h0, h1, decide_true, decide_false, Bool.and_true, Bool.and_false, Bool.true_and, Bool.false_and] at HF
   go_enter Tryz.func65, Tryz.ntmps65
   go_wp2_with fail
   refine HF.out.mono ?_
   rintro e w1 ⟨rfl, h1⟩
   have H1 := Lib.hid h1
   clear h1 HF
   go_wp2_with fail
   refine (HP.out _ H1.out).mono ?_
   rintro e w3 ⟨rfl, h3⟩
   have H3 := Lib.hid h3
   clear h3 H1 HP
   go_wp2_with fail
   go_end0
   exact ⟨rfl, H3.out⟩
 ·simp only [h0, decide_false, Bool.false_and] at HF
  go_enter Tryz.func65, Tryz.ntmps65
  go_wp2_with fail
  refine HF.out.mono ?_
  rintro e w1 ⟨rfl, h1⟩
  have H1 := Lib.hid h1
  clear h1 HF
  go_wp2_with fail
  refine (HP.out _ H1.out).mono ?_
  rintro e w3 ⟨rfl, h3⟩
  have H3 := Lib.hid h3
  clear h3 H1 HP
  go_wp2_with fail
  go_end0
  exact ⟨rfl, H3.out⟩
set_option maxRecDepth 100000 in
set_option maxHeartbeats 8000000 in
theorem lword_any (h : St B kb im o en w0 zs.length zs why w) {k : Int} (hk : I64R k) (hl : zs.length ≤ 274877906944) : Calls Tryz.prog 68 #[.pointer (some ⟨kb, 0, none⟩), .int .i64 k] w fun e w' => e = .returned (.tuple #[]) ∧ St B kb im o en w0 (zs ++ Pl.le 4 (k % 4294967296).toNat).length (zs ++ Pl.le 4 (k % 4294967296).toNat) (fieldF why (fitB 0 4294967295 k)) w' := by
 obtain ⟨hk1, hk2⟩ := hk
 obtain ⟨m, hm⟩ : ∃ m : Nat, (k % 4294967296).toNat = m := ⟨_, rfl⟩
 have hm2 : m ≤ 4294967295 := by omega
 have hw : IntKind.u32.wrap k = (m : Int) := by rw [IntKind.wrap_u32]; omega
 have HF := Lib.hid (field_any h (fitB 0 4294967295 k))
 obtain ⟨y, hy⟩ : ∃ y, fieldF why (fitB 0 4294967295 k) = y := ⟨_, rfl⟩
 rw [hm]
 rw [hy] at HF ⊢
 have HLz : Hid (zs.length ≤ 274877906944) := hl
 have hb0 : (fitB 0 4294967295 k = (decide ((0 : Int) ≤ k) && decide (k ≤ 4294967295))) := rfl
 rw [hb0] at HF
 have hw1 : IntKind.i64.wrap ((zs.length : Int) + 4) = ((zs.length + 4 : Nat) : Int) := by rw [IntKind.wrap_i64]; omega
 have HLe : Hid ((zs ++ Pl.le 4 m).length = zs.length + 4) := show _ = _ by rw [List.length_append, Pl.le_length]
 have HSm : Hid (∀ z ∈ Pl.le 4 m, z < 256) := Pl.le_small 4 m
 have HFin : Hid (∀ W, St B kb im o en w0 (zs.length + 4) (zs ++ Pl.le 4 m) y W → St B kb im o en w0 (zs ++ Pl.le 4 m).length (zs ++ Pl.le 4 m) y W) := fun W hW => by rw [HLe.out]; exact hW
 have HRest : Hid (∀ w1, St B kb im o en w0 zs.length zs y w1 → w1.cell? ⟨kb, 12, none⟩ = some (outV o) ∧ w1.cell? ⟨kb, 13, none⟩ = some (.int .i64 (zs.length : Int)) ∧ w1.frozen? ⟨kb, 13, none⟩ = false ∧ St B kb im o en w0 (zs.length + 4) zs y (w1.setCell ⟨kb, 13, none⟩ (.int .i64 ((zs.length + 4 : Nat) : Int)))) := fun w1 h1 => ⟨h1.cells.1, h1.cells.2.1, h1.free 13, h1.setAt _⟩
 clear h hm hy hb0 hl
 obtain ⟨L, hL⟩ : ∃ L, zs.length = L := ⟨_, rfl⟩
 rw [hL] at hw1 HF HLe HFin HRest
 clear hL
 cases o with
 | none =>
  simp only [outV, Option.map] at HRest
  by_cases h0 : 0 ≤ k
  ·by_cases h1 : k ≤ 4294967295
   all_goals
    simp only [h0, h1, decide_true, decide_false, Bool.and_true, Bool.and_false, Bool.true_and, Bool.false_and] at HF
    go_enter Tryz.func68, Tryz.ntmps68
    go_wp2_with fail
    refine HF.out.mono ?_
    rintro e w1 ⟨rfl, h1⟩
    obtain ⟨c12, c13, f13, h2⟩ := HRest.out w1 h1
    have H2 := Lib.hid h2
    clear h1 h2 HF HRest
    go_wp2_with fail
    go_end0
    exact ⟨rfl, HFin.out _ (H2.out.ghost HSm.out)⟩
  ·simp only [h0, decide_false, Bool.false_and] at HF
   go_enter Tryz.func68, Tryz.ntmps68
   go_wp2_with fail
   refine HF.out.mono ?_
   rintro e w1 ⟨rfl, h1⟩
   obtain ⟨c12, c13, f13, h2⟩ := HRest.out w1 h1
   have H2 := Lib.hid h2
   clear h1 h2 HF HRest
   go_wp2_with fail
   go_end0
   exact ⟨rfl, HFin.out _ (H2.out.ghost HSm.out)⟩
 | some p =>
  simp only [outV, Option.map] at HRest
  by_cases h0 : 0 ≤ k
  ·by_cases h1 : k ≤ 4294967295
   all_goals
    simp only [h0, h1, decide_true, decide_false, Bool.and_true, Bool.and_false, Bool.true_and, Bool.false_and] at HF
    go_enter Tryz.func68, Tryz.ntmps68
    go_wp2_with fail
    refine HF.out.mono ?_
    rintro e w1 ⟨rfl, h1⟩
    obtain ⟨c12, c13, f13, h2⟩ := HRest.out w1 h1
    have H2 := Lib.hid h2
    have c12' : (w1.setCell ⟨kb, 13, none⟩ (.int .i64 ((L + 4 : Nat) : Int))).cell? ⟨kb, 12, none⟩ = some (.pointer (some ⟨p, 0, none⟩)) := h2.cells.1
    clear h1 h2 HF HRest
    go_wp2_with fail
    obtain ⟨v, hv, hp, hB⟩ := H2.out.wr
    refine (put_u32 hv hm2 (by have := HLz.out; omega) H2.out.le).mono ?_
    rintro e w3 ⟨rfl, v', hv', hk', _⟩
    have H3 := Lib.hid (HFin.out _ (H2.out.put hv hp hB hv' hk'))
    clear hv hv' hk' H2
    go_wp2_with fail
    go_end0
    exact ⟨rfl, H3.out⟩
  ·simp only [h0, decide_false, Bool.false_and] at HF
   go_enter Tryz.func68, Tryz.ntmps68
   go_wp2_with fail
   refine HF.out.mono ?_
   rintro e w1 ⟨rfl, h1⟩
   obtain ⟨c12, c13, f13, h2⟩ := HRest.out w1 h1
   have H2 := Lib.hid h2
   have c12' : (w1.setCell ⟨kb, 13, none⟩ (.int .i64 ((L + 4 : Nat) : Int))).cell? ⟨kb, 12, none⟩ = some (.pointer (some ⟨p, 0, none⟩)) := h2.cells.1
   clear h1 h2 HF HRest
   go_wp2_with fail
   obtain ⟨v, hv, hp, hB⟩ := H2.out.wr
   refine (put_u32 hv hm2 (by have := HLz.out; omega) H2.out.le).mono ?_
   rintro e w3 ⟨rfl, v', hv', hk', _⟩
   have H3 := Lib.hid (HFin.out _ (H2.out.put hv hp hB hv' hk'))
   clear hv hv' hk' H2
   go_wp2_with fail
   go_end0
   exact ⟨rfl, H3.out⟩
set_option maxRecDepth 100000 in
set_option maxHeartbeats 8000000 in
theorem long_any (h : St B kb im o en w0 zs.length zs why w) {m : Nat} (hm : m ≤ 18446744073709551615) (hl : zs.length ≤ 274877906944) : Calls Tryz.prog 66 #[.pointer (some ⟨kb, 0, none⟩), .int .u64 (m : Int)] w fun e w' => e = .returned (.tuple #[]) ∧ St B kb im o en w0 (zs ++ Pl.le 8 m).length (zs ++ Pl.le 8 m) why w' := by
 have hw1 : IntKind.i64.wrap ((zs.length : Int) + 8) = ((zs.length + 8 : Nat) : Int) := by rw [IntKind.wrap_i64]; omega
 have HLe : Hid ((zs ++ Pl.le 8 m).length = zs.length + 8) := show _ = _ by rw [List.length_append, Pl.le_length]
 have HSm : Hid (∀ z ∈ Pl.le 8 m, z < 256) := Pl.le_small 8 m
 have HLz : Hid (zs.length ≤ 274877906944) := hl
 have HFin : Hid (∀ W, St B kb im o en w0 (zs.length + 8) (zs ++ Pl.le 8 m) why W → St B kb im o en w0 (zs ++ Pl.le 8 m).length (zs ++ Pl.le 8 m) why W) := fun W hW => by rw [HLe.out]; exact hW
 obtain ⟨c12, c13, c59⟩ := h.cells
 have f13 := h.free 13
 have H2 := Lib.hid (h.setAt (zs.length + 8))
 have c12' := (h.setAt (zs.length + 8)).cells.1
 clear h hl
 obtain ⟨L, hL⟩ : ∃ L, zs.length = L := ⟨_, rfl⟩
 rw [hL] at hw1 HLe HFin H2 c13 c12'
 clear hL
 cases o with
 | none =>
  simp only [outV, Option.map] at c12 c12'
  go_enter Tryz.func66, Tryz.ntmps66
  go_wp2_with fail
  go_end0
  exact ⟨rfl, HFin.out _ (H2.out.ghost HSm.out)⟩
 | some p =>
  simp only [outV, Option.map] at c12 c12'
  go_enter Tryz.func66, Tryz.ntmps66
  go_wp2_with fail
  obtain ⟨v, hv, hp, hB⟩ := H2.out.wr
  refine (put_u64 hv hm (by have := HLz.out; omega) H2.out.le).mono ?_
  rintro e w3 ⟨rfl, v', hv', hk', _⟩
  have H3 := Lib.hid (HFin.out _ (H2.out.put hv hp hB hv' hk'))
  clear hv hv' hk' H2
  go_wp2_with fail
  go_end0
  exact ⟨rfl, H3.out⟩
end
end Go.Proofs.YtnifefmfhjfbnaaGreatDoor
/- Bundle: what an image is, and the bytes that are laid down for it. Plain. Own work. -/
namespace Go.Proofs.YtnifefmfhjfbnaaGreatDoor
set_option linter.unusedVariables false
namespace Bn
abbrev Rg := Nat × Nat
structure Tn where
 cpu : Int
 root : Int
 st : Bool
 rule : Int
 to : Int
 vec : Int
structure Gd where
 ad : Nat
 sz : Nat
 fill : Nat
 txt : ByteArray
structure Lk where
 fr : Int
 to : Int
 eff : Int
 vec : Int
 msk : Bool
structure Sc where
 maj : Int
 lanes : List (List (Int × Int))
structure Im where
 base : Nat
 rams : List Rg
 devs : List Rg
 subs : List Tn
 ports : List Int
 regs : List Gd
 chs : List Lk
 irqs : List Lk
 plans : List Sc
 master : Int
 start : Int
 tabs : List (Nat → Nat)
/-- bytes so far, and why not -/
abbrev S := List Nat × Int
def byteS (k : Int) (s : S) : S := (s.1 ++ Pl.le 1 (k % 256).toNat, fieldF s.2 (fitB 0 255 k))
def flagS (b : Bool) (s : S) : S := byteS (if b = true then 1 else 0) s
def halfS (k : Int) (s : S) : S := (s.1 ++ Pl.le 2 (k % 65536).toNat, fieldF s.2 (fitB 0 65535 k))
def noneS (k : Int) (s : S) : S := (s.1 ++ Pl.le 2 (k % 65536).toNat, fieldF s.2 (noneB k))
def wordS (k : Int) (s : S) : S := (s.1 ++ Pl.le 4 (k % 4294967296).toNat, fieldF s.2 (fitB 0 4294967295 k))
def longS (m : Nat) (s : S) : S := (s.1 ++ Pl.le 8 m, s.2)
def zerosS (c : Nat) (s : S) : S := (s.1 ++ List.replicate c 0, s.2)
def fieldS (b : Bool) (s : S) : S := (s.1, fieldF s.2 b)
def askS (b : Bool) (no : Int) (s : S) : S := (s.1, askF s.2 b no)
def bytesS (ys : List Nat) (s : S) : S := (s.1 ++ ys, s.2)
def manyS (n : Nat) (s : S) : S := zerosS 6 (halfS (n : Int) s)
/-- the next multiple -/
def upN (a al : Nat) : Nat := if a % al = 0 then a else a + (al - a % al)
def padS (al : Nat) (s : S) : S := zerosS (upN s.1.length al - s.1.length) s
def bts (t : ByteArray) : List Nat := t.data.toList.map UInt8.toNat
def textS (t : ByteArray) (s : S) : S := padS 8 (bytesS (bts t) (wordS (t.size : Int) (askS (decide (t.size ≤ 1048576)) 3 s)))
def rangeS (r : Rg) (s : S) : S := longS r.2 (longS r.1 s)
def tenS (x : Tn) (s : S) : S := noneS x.root (noneS x.to (byteS x.vec (byteS x.rule (flagS x.st (byteS x.cpu s)))))
def portS (r : Int) (s : S) : S := zerosS 6 (noneS r s)
def gdS (g : Gd) (s : S) : S := textS g.txt (zerosS 3 (byteS (g.fill : Int) (longS g.sz (longS g.ad s))))
def chS (c : Lk) (s : S) : S := zerosS 2 (byteS c.vec (byteS c.eff (noneS c.to (noneS c.fr (fieldS (!c.msk) s)))))
def iqS (c : Lk) (s : S) : S := zerosS 2 (flagS c.msk (byteS c.vec (noneS c.to (noneS c.fr (fieldS (decide (c.eff = 1)) s)))))
def stS (x : Int × Int) (s : S) : S := wordS x.2 (zerosS 2 (noneS x.1 s))
/-- one behind the other -/
def eachS {α : Type} (f : α → S → S) : List α → S → S
 | [], s => s
 | x :: xs, s => eachS f xs (f x s)
theorem eachS_take {α : Type} (f : α → S → S) : ∀ (xs : List α) (s : S) (i : Nat) (h : i < xs.length), eachS f (xs.take (i + 1)) s = f xs[i] (eachS f (xs.take i) s)
 | x :: xs, s, 0, h => by simp [eachS]
 | x :: xs, s, i + 1, h => by
  have := eachS_take f xs (f x s) i (by simpa using h)
  simpa [eachS] using this
def laneS (l : List (Int × Int)) (s : S) : S := eachS stS l (manyS l.length s)
def planS (n : Nat) (p : Sc) (s : S) : S := eachS laneS p.lanes (zerosS 4 (wordS p.maj (fieldS (decide (p.lanes.length = n)) s)))
def tb (f : Nat → Nat) : Nat → List Nat
 | 0 => []
 | k + 1 => tb f k ++ Pl.le 8 (f k)
def tabS (f : Nat → Nat) (s : S) : S := bytesS (tb f 512) s
def roomS (I : Im) (s : S) : S := zerosS 160 (fieldS (decide (I.base % 4096 = 0)) s)
def busS (I : Im) (s : S) : S := eachS rangeS I.devs (eachS rangeS I.rams (zerosS 4 (halfS (I.devs.length : Int) (halfS (I.rams.length : Int) s))))
def subsS (I : Im) (s : S) : S := eachS tenS I.subs (manyS I.subs.length s)
def portsS (I : Im) (s : S) : S := eachS portS I.ports (manyS I.ports.length (fieldS (decide (I.ports.length = I.devs.length)) s))
def regsS (I : Im) (s : S) : S := eachS gdS I.regs (manyS I.regs.length s)
def chsS (I : Im) (s : S) : S := eachS chS I.chs (manyS I.chs.length s)
def irqsS (I : Im) (s : S) : S := eachS iqS I.irqs (manyS I.irqs.length s)
def lanesN (I : Im) : Nat := match I.plans with
 | [] => 0
 | p :: _ => p.lanes.length
def plansS (I : Im) (s : S) : S := eachS (planS (lanesN I)) I.plans (halfS I.start (noneS I.master (halfS (lanesN I : Int) (halfS (I.plans.length : Int) s))))
def tabsS (I : Im) (s : S) : S := eachS tabS I.tabs s
end Bn
end Go.Proofs.YtnifefmfhjfbnaaGreatDoor
