/- BusMade: the walk. Own work. -/
import Derived.Test.YtmaahompmgmkfaaRgMad2
import Derived.Test.YtmaahompmgmkfaaRgWhere
import Derived.Test.YtmaahompmgmkfaaRgLoad
import Derived.Test.YtmaahompmgmkfaaBNames2
import Derived.Test.YtmaahompmgmkfaaBClone
namespace Go.Proofs.Ytmaahompmgmkfaa
open Go.RowKit Go.Maps Go.Proofs.Ytmaahompmgmkfaa.Sp
/-- are two numbers together beyond the bound? -/
def beyB (a b : Int) : Bool := decide (2147483647 < a ∨ 2147483647 - a < b)
set_option maxHeartbeats 2000000 in
theorem beyond2_any {a b : Int} {g cap : Nat} {w : World} (ha : 0 ≤ a ∧ a ≤ 9223372036854775807) (hb : 0 ≤ b ∧ b ≤ 9223372036854775807) (c0 : w.cell? ⟨g, 0, none⟩ = some (.int .i64 a)) (c1 : w.cell? ⟨g, 1, none⟩ = some (.int .i64 b)) :
    Calls Try.prog 4 #[.slice (some ⟨g, 0, none⟩) 2 cap] w fun e w' => e = .returned (.bool (beyB a b)) ∧ w' = w := by
  obtain ⟨a0, a1⟩ := ha
  obtain ⟨b0, b1⟩ := hb
  by_cases h1 : 2147483647 < a
  · have HE : Hid (beyB a b = true) := decide_eq_true (.inl h1)
    go_enter Try.func4, Try.ntmps4
    go_wp2_with fail
    refine wp_loop_rounds 3 ?_
    rw [rounds_succ]
    go_wp2_with fail
    go_ret
    exact ⟨by rw [HE.out]; rfl, rfl⟩
  · have l0 : 0 ≤ 2147483647 - a := by omega
    have l1 : 2147483647 - a ≤ 2147483647 := by omega
    by_cases h2 : 2147483647 - a < b
    · have HE : Hid (beyB a b = true) := decide_eq_true (.inr h2)
      go_enter Try.func4, Try.ntmps4
      go_wp2_with fail
      refine wp_loop_rounds 3 ?_
      rw [rounds_succ]
      go_wp2_with fail
      rw [rounds_succ]
      go_wp2_with fail
      go_ret
      exact ⟨by rw [HE.out]; rfl, rfl⟩
    · have HE : Hid (beyB a b = false) := decide_eq_false (by omega)
      go_enter Try.func4, Try.ntmps4
      go_wp2_with fail
      refine wp_loop_rounds 3 ?_
      rw [rounds_succ]
      go_wp2_with fail
      rw [rounds_succ]
      go_wp2_with fail
      rw [rounds_succ]
      go_wp2_with fail
      go_ret
      exact ⟨by rw [HE.out]; rfl, rfl⟩
set_option maxHeartbeats 1000000 in
theorem bsame_any {p q : Int} (w : World) : Calls Try.prog 14 #[.agg #[.int .i64 p, .int .u64 q], .agg #[.int .i64 p, .int .u64 q]] w fun e w' => e = .returned (.bool true) ∧ Below w.heap.size w w' := by
  go_enter Try.func14, Try.ntmps14
  go_wp2_with fail
  go_ret
  exact ⟨rfl, ((Below.refl _ _).alloc (Nat.le_refl _) _).alloc (by simp) _⟩
set_option maxHeartbeats 1000000 in
theorem rnew_any {w : World} {vr vd : Value} : Calls Try.prog 8 #[.agg #[vr, vd]] w fun e w' => ∃ m, e = .returned (.pointer (some ⟨m, 0, none⟩)) ∧ Hid (RBox w' m vr vd (.slice none 0 0) 0 0 0) ∧ Hid (Below w.heap.size w w' ∧ w.heap.size ≤ m) := by
  go_enter Try.func8, Try.ntmps8
  go_wp2_with fail
  go_ret
  exact ⟨_, rfl, heap_alloc_newN (by simp) _, ((Below.refl _ _).alloc (Nat.le_refl _) _).alloc (by simp) _, by simp⟩
theorem spot_on {a : Int} : ∀ (rs : List Sp) (i : Nat), (spotFrom a i rs).isSome = true ↔ On rs a
  | [], i => by simp [spotFrom, On]
  | r :: rs, i => by
    rw [spotFrom]
    by_cases h : r.1 ≤ a ∧ a < r.1 + r.2
    · rw [if_pos h]
      exact ⟨fun _ => ⟨r, List.mem_cons_self .., h⟩, fun _ => rfl⟩
    · rw [if_neg h, spot_on rs (i + 1)]
      constructor
      · rintro ⟨x, hx, hh⟩
        exact ⟨x, List.mem_cons_of_mem _ hx, hh⟩
      · rintro ⟨x, hx, hh⟩
        rcases List.mem_cons.1 hx with rfl | hx
        · exact absurd hh h
        · exact ⟨x, hx, hh⟩
theorem where_form (rs ds : List Sp) (a : Int) : ∃ k i o b, whereV rs ds a = .tuple #[.agg #[.int .i64 k, .int .i64 i, .int .u64 o], .bool b] ∧ (b = true ↔ On (rs ++ ds) a) := by
  have h1 := spot_on (a := a) rs 0
  have h2 := spot_on (a := a) ds 0
  unfold whereV
  cases hs : spotFrom a 0 rs with
  | some x =>
    rw [hs] at h1
    exact ⟨_, _, _, true, rfl, fun _ => by obtain ⟨r, hr, h⟩ := h1.1 rfl; exact ⟨r, List.mem_append_left _ hr, h⟩, fun _ => rfl⟩
  | none =>
    rw [hs] at h1
    cases ht : spotFrom a 0 ds with
    | some x =>
      rw [ht] at h2
      exact ⟨_, _, _, true, rfl, fun _ => by obtain ⟨r, hr, h⟩ := h2.1 rfl; exact ⟨r, List.mem_append_right _ hr, h⟩, fun _ => rfl⟩
    | none =>
      rw [ht] at h2
      refine ⟨0, 0, 0, false, rfl, ⟨fun h => (by cases h), ?_⟩⟩
      rintro ⟨r, hr, h⟩
      rcases List.mem_append.1 hr with hr | hr
      · exact absurd (h1.2 ⟨r, hr, h⟩) (by simp)
      · exact absurd (h2.2 ⟨r, hr, h⟩) (by simp)
theorem num_zero (a : Nat) : Pl.num 8 (rdTo (fun _ => 0) a 8 1) = 0 := by
  have : rdTo (fun _ => 0) a 8 1 = [0, 0, 0, 0, 0, 0, 0, 0] := rfl
  rw [this]
  rfl
theorem off_where {LL : List Sp} {a : Nat} {x : Int} {b bb : Bool} (h : OffR LL a 1 x bb) (hb : b = true ↔ On LL (a : Int)) : b = !bb := by
  cases bb with
  | true =>
    obtain ⟨i, hi, _, _, hn, _⟩ := h.1 rfl
    obtain rfl : i = 0 := by omega
    cases b with
    | false => rfl
    | true => exact absurd (by simpa using hb.1 rfl) hn
  | false =>
    have := (h.2 rfl).2 0 (by omega)
    exact hb.2 (by simpa using this)
theorem MadeR.some {base : Nat} {W : World} {rs ds : List Sp} {pm : Option Addr} (h : MadeR base W pm rs ds) (h0 : refW rs ds = 0) : ∃ m B V, pm = some ⟨m, 0, none⟩ ∧ Mac W m B V (fun _ => none) (fun _ => 0) rs ds 0 0 0 ∧ ∀ j, Mine m B V (fun _ => none) j → base ≤ j := by
  rcases h with ⟨h, _⟩ | ⟨_, h⟩
  · exact absurd h0 h
  · exact h
theorem refW_small : refW [(8192, 4096)] [] = 0 := by decide
theorem fits_small : Fits 18446744073709551615 [((8192 : Int), (4096 : Int))] := fun x hx => by
  rw [List.mem_singleton.1 hx]
  decide
/-- the boxes that the law's last sentence reads -/
def Five (W : World) (p q r s t : Nat) (vr vd : Value) (k i o why x : Int) : Prop := BoxB W p vr vd ∧ Box3 W q (.int .i64 k) (.int .i64 i) (.int .u64 o) ∧ Box3 W r (.int .i64 k) (.int .i64 i) (.int .u64 o) ∧ BoxF W s why x ∧ BoxG W t why x
theorem Box3.below {w w' : World} {b : Nat} {x y z : Value} (h : Box3 w b x y z) (hb : Below w.heap.size w w') : Box3 w' b x y z := (hb.block b (Array.getElem?_eq_some_iff.1 h).1).trans h
theorem Box3.keeps {Z : Nat → Prop} {w w' : World} {b : Nat} {x y z : Value} (h : Box3 w b x y z) (hk : Keeps Z w w') (hn : ¬ Z b) : Box3 w' b x y z := (hk.block b (Array.getElem?_eq_some_iff.1 h).1 hn).trans h
theorem Box3.lt {w : World} {b : Nat} {x y z : Value} (h : Box3 w b x y z) : b < w.heap.size := (Array.getElem?_eq_some_iff.1 h).1
theorem Five.below {W W' : World} {p q r s t : Nat} {vr vd : Value} {k i o why x : Int} (h : Five W p q r s t vr vd k i o why x) (hb : Below W.heap.size W W') : Five W' p q r s t vr vd k i o why x :=
  ⟨h.1.below hb, h.2.1.below hb, h.2.2.1.below hb, h.2.2.2.1.below hb, h.2.2.2.2.below hb⟩
abbrev Twelve (W : World) (p q r s t : Nat) (vr vd : Value) (k i o why x : Int) : Prop :=
  W.cell? ⟨p, 0, none⟩ = some vr ∧ W.cell? ⟨p, 1, none⟩ = some vd ∧ W.cell? ⟨q, 0, none⟩ = some (.int .i64 k) ∧ W.cell? ⟨q, 1, none⟩ = some (.int .i64 i) ∧ W.cell? ⟨q, 2, none⟩ = some (.int .u64 o) ∧ W.cell? ⟨r, 0, none⟩ = some (.int .i64 k) ∧ W.cell? ⟨r, 1, none⟩ = some (.int .i64 i) ∧ W.cell? ⟨r, 2, none⟩ = some (.int .u64 o) ∧ W.cell? ⟨s, 0, none⟩ = some (.int .i64 why) ∧ W.cell? ⟨s, 1, none⟩ = some (.int .u64 x) ∧ W.cell? ⟨t, 0, none⟩ = some (.int .i64 why) ∧ W.cell? ⟨t, 1, none⟩ = some (.int .u64 x)
theorem Five.cells {W : World} {p q r s t : Nat} {vr vd : Value} {k i o why x : Int} (h : Five W p q r s t vr vd k i o why x) : Twelve W p q r s t vr vd k i o why x := by
  obtain ⟨h1, h2, h3, h4, h5⟩ := h
  obtain ⟨a0, a1, _⟩ := h1.cells
  obtain ⟨b0, b1, b2, _⟩ := h2.cells
  obtain ⟨c0, c1, c2, _⟩ := h3.cells
  obtain ⟨d0, d1, _⟩ := h4.cells
  obtain ⟨e0, e1, _⟩ := h5.cells
  exact ⟨a0, a1, b0, b1, b2, c0, c1, c2, d0, d1, e0, e1⟩
theorem Mac.pair {w : World} {m B : Nat} {V : Value × Value × Value} {T : Nat → Option Nat} {M : Nat → Nat} {rs ds : List Sp} {L S X : Nat} (h : Mac w m B V T M rs ds L S X) : Sane (rs ++ ds) := by
  obtain ⟨_, _, _, _, _, _, _, h6, _⟩ := h
  exact h6
theorem refW_len {rs ds : List Sp} (h : refW rs ds = 0) : rs.length ≤ 8 ∧ ds.length ≤ 32 := by
  by_cases hl : 8 < rs.length ∨ 32 < ds.length
  · rw [refW, if_pos hl] at h
    omega
  · omega
set_option maxRecDepth 100000 in
set_option maxHeartbeats 8000000 in
theorem made_walk {w : World} {vr vd : Value} {rs ds : List Sp} {a : Nat} (hr : U64.SV w vr rs) (hd : U64.SV w vd ds) (fr : Fits 18446744073709551615 rs) (fd : Fits 18446744073709551615 ds) (ha : a ≤ 18446744073709551615) :
    Calls Try.prog 3 #[.agg #[vr, vd], .int .u64 (a : Int)] w fun e w' => e = .returned (.bool true) ∧ Below w.heap.size w w' := by
  have HR : Hid (U64.SV w vr rs) := hr
  have HD : Hid (U64.SV w vd ds) := hd
  have HFr : Hid (Fits 18446744073709551615 rs) := fr
  have HFd : Hid (Fits 18446744073709551615 ds) := fd
  have HMd : Hid (rs.length ≤ 8796093022000 → ds.length ≤ 8796093022000 → ∀ W, Below w.heap.size w W → Calls Try.prog 5 #[.agg #[vr, vd]] W fun e w' => ∃ pm, e = .returned (.tuple #[.pointer pm, .bool true]) ∧ Hid (Below W.heap.size W w') ∧ Hid (MadeR W.heap.size w' pm rs ds)) := fun hl hl2 W hW => made_any (HR.out.below hW (Nat.le_refl _)) (HD.out.below hW (Nat.le_refl _)) fr fd hl hl2
  obtain ⟨ar, cr, rfl, g1, g2, hq1⟩ := hr
  obtain ⟨ad, cd, rfl, g3, g4, hq2⟩ := hd
  unfold maxLen at g2 g4
  clear hq1 hq2 fr fd
  have HB0 : Hid (Below w.heap.size w (w.alloc (Obj.cells #[.slice ar rs.length cr, .slice ad ds.length cd] 24))) := (Below.refl _ _).alloc (Nat.le_refl _) _
  have HX0 : Hid (BoxB (w.alloc (Obj.cells #[.slice ar rs.length cr, .slice ad ds.length cd] 24)) w.heap.size (.slice ar rs.length cr) (.slice ad ds.length cd)) := heap_alloc_new w _
  have HBy : Hid (Calls Try.prog 4 #[.slice (some ⟨w.heap.size + 1, 0, none⟩) 2 2] ((w.alloc (Obj.cells #[.slice ar rs.length cr, .slice ad ds.length cd] 24)).alloc (Obj.cells #[.int .i64 (rs.length : Int), .int .i64 (ds.length : Int)] 3)) fun e w' => e = .returned (.bool (beyB rs.length ds.length)) ∧ w' = ((w.alloc (Obj.cells #[.slice ar rs.length cr, .slice ad ds.length cd] 24)).alloc (Obj.cells #[.int .i64 (rs.length : Int), .int .i64 (ds.length : Int)] 3))) := beyond2_any ⟨by omega, by omega⟩ ⟨by omega, by omega⟩ (U64.new2 (by simp) _ _ _).1 (U64.new2 (by simp) _ _ _).2
  go_enter Try.func3, Try.ntmps3
  go_wp2_with fail
  refine HBy.out.mono ?_
  rintro e w1 ⟨rfl, hw1⟩
  have HB1 : Hid (Below w.heap.size w w1) := by rw [hw1]; exact HB0.out.alloc HB0.out.size _
  have HX1 : Hid (BoxB w1 w.heap.size (.slice ar rs.length cr) (.slice ad ds.length cd)) := by rw [hw1]; exact HX0.out.below ((Below.refl _ _).alloc (Nat.le_refl _) _)
  clear hw1 HBy HB0 HX0
  cases hby : beyB rs.length ds.length with
  | true =>
    go_wp2_with fail
    go_ret
    exact ⟨rfl, HB1.out⟩
  | false =>
    have hl : rs.length ≤ 8796093022000 := by have := of_decide_eq_false hby; omega
    have hl2 : ds.length ≤ 8796093022000 := by have := of_decide_eq_false hby; omega
    clear hby
    have HSm : Hid (∀ W g, Below w.heap.size w W → U64.SV W (.slice (some ⟨g, 0, none⟩) 1 1) [(8192, 4096)] → Calls Try.prog 5 #[.agg #[.slice (some ⟨g, 0, none⟩) 1 1, .slice none 0 0]] W fun e w' => ∃ pm, e = .returned (.tuple #[.pointer pm, .bool true]) ∧ Hid (Below W.heap.size W w') ∧ Hid (MadeR W.heap.size w' pm [(8192, 4096)] [])) := fun W g hW hS => made_any hS (U64.SV.nil _) fits_small (fun _ h => by cases h) (by decide) (by decide)
    go_wp2_with fail
    have hb2 : Below w.heap.size w (w1.alloc (Obj.cells #[.int .u64 8192, .int .u64 4096] 31)) := HB1.out.alloc HB1.out.size _
    refine (HSm.out _ _ hb2 (U64.one_sv (x := (8192, 4096)) (U64.new2 rfl _ _ _).1 (U64.new2 rfl _ _ _).2)).mono ?_
    rintro e w2 ⟨pm, rfl, HB2, HM2⟩
    obtain ⟨m2, B2, V2, rfl, hmac2, _⟩ := HM2.out.some refW_small
    have HBw2 : Hid (Below w.heap.size w w2) := hb2.trans (HB2.out.mono hb2.size)
    have HX2 : Hid (BoxB w2 w.heap.size (.slice ar rs.length cr) (.slice ad ds.length cd)) := (HX1.out.below ((Below.refl _ _).alloc (Nat.le_refl _) _)).below HB2.out
    have HMac2 : Hid (Mac w2 m2 B2 V2 (fun _ => none) (fun _ => 0) [(8192, 4096)] [] 0 0 0) := hmac2
    have HBu := Lib.hid (bus_any hmac2 (by decide) (by decide))
    clear hb2 HM2 HSm HB2 hmac2 HX1
    go_wp2_with fail
    refine HBu.out.mono ?_
    rintro e w3 ⟨a3, n3, c3, a4, n4, c4, rfl, HB3, HS3⟩
    have hn3 : n3 = 1 := by obtain ⟨_, _, e, _⟩ := HS3.out.1; cases e; rfl
    subst hn3
    have HBw3 : Hid (Below w.heap.size w w3) := HBw2.out.trans (HB3.out.mono HBw2.out.size)
    have HX3 : Hid (BoxB w3 w.heap.size (.slice ar rs.length cr) (.slice ad ds.length cd)) := HX2.out.below HB3.out
    have HKp : Hid (Calls Try.prog 7 #[.pointer (some ⟨m2, 0, none⟩)] w3 fun e w' => e = .returned (.int .i64 0) ∧ w' = w3) := by
      refine (kept_any (HMac2.out.below HB3.out)).mono ?_
      rintro e w' ⟨rfl, hw⟩
      exact ⟨by rw [cnt_zero]; rfl, hw⟩
    have hfd : ∀ W : World, (Instr.field 24 (.agg #[.slice a3 1 c3, .slice a4 n4 c4]) 0).run Try.prog W = .ok (.slice a3 1 c3) W := fun _ => by kernel_rfl
    clear HBu HS3 HB3 HX2 HBw2
    obtain ⟨x0, x1, _, _⟩ := HX3.out.cells
    clear HMac2
    go_wp2_with (go_at_call 7; refine HKp.out.mono ?_; rintro e w' ⟨rfl, hw⟩; have hw := hw.symm; subst hw)
    clear HKp
    refine (HMd.out hl hl2 _ HBw3.out).mono ?_
    rintro e w4 ⟨pm, rfl, HB4, HM4⟩
    have HBw4 : Hid (Below w.heap.size w w4) := HBw3.out.trans (HB4.out.mono HBw3.out.size)
    have HX4 : Hid (BoxB w4 w.heap.size (.slice ar rs.length cr) (.slice ad ds.length cd)) := HX3.out.below HB4.out
    obtain ⟨x0, x1, _, _⟩ := HX4.out.cells
    rcases HM4.out with ⟨h0, rfl⟩ | ⟨h0, m, B, V, rfl, hmac, hj⟩
    · clear h0 HM4
      go_wp2_with fail
      go_ret
      exact ⟨rfl, HBw4.out⟩
    · have HMac4 : Hid (Mac w4 m B V (fun _ => none) (fun _ => 0) rs ds 0 0 0) := hmac
      have HLt : Hid (w.heap.size < m ∧ m < w4.heap.size) := ⟨Nat.lt_of_lt_of_le HX3.out.lt (hj m (.inl rfl)), hmac.lt⟩
      have HSn : Hid (Sane (rs ++ ds)) := hmac.pair
      have HLn : Hid (rs.length + ds.length ≤ 64) := by have := refW_len h0; show _ ≤ _; omega
      clear hmac hj h0 HM4 HB4 HX3 HBw3
      go_wp2_with fail
      refine rnew_any.mono ?_
      rintro e w5 ⟨v, rfl, HV5, HB5⟩
      have HMac5 : Hid (Mac w5 m B V (fun _ => none) (fun _ => 0) rs ds 0 0 0) := HMac4.out.below HB5.out.1
      have HX5 : Hid (BoxB w5 w.heap.size (.slice ar rs.length cr) (.slice ad ds.length cd)) := HX4.out.below HB5.out.1
      have HBw5 : Hid (Below w.heap.size w w5) := HBw4.out.trans (HB5.out.1.mono HBw4.out.size)
      have HV5LT : Hid (v < w5.heap.size) := HV5.out.lt
      have HMv : Hid (∀ j, Mine m B V (fun _ => none) j → j < w4.heap.size) := fun j hj => HMac4.out.mine_lt hj
      have HLv : Hid (m < v) := Nat.lt_of_lt_of_le HLt.out.2 HB5.out.2
      obtain ⟨k, i, o, b, hV, hon⟩ := where_form rs ds a
      have HVe : Hid (whereV rs ds a = .tuple #[.agg #[.int .i64 k, .int .i64 i, .int .u64 o], .bool b]) := hV
      have HOn : Hid (b = true ↔ On (rs ++ ds) (a : Int)) := hon
      have HW1 : Hid (Calls Try.prog 9 #[.pointer (some ⟨m, 0, none⟩), .int .u64 (a : Int)] w5 fun e w' => e = .returned (.tuple #[.agg #[.int .i64 k, .int .i64 i, .int .u64 o], .bool b]) ∧ Below w5.heap.size w5 w') := by
        have := where_any HMac5.out (a := (a : Int)) ⟨by omega, by omega⟩
        rw [hV] at this
        exact this
      have HW2 : Hid (∀ W, Below w5.heap.size w5 W → Calls Try.prog 10 #[.pointer (some ⟨v, 0, none⟩), .int .u64 (a : Int)] W fun e w' => e = .returned (.tuple #[.agg #[.int .i64 k, .int .i64 i, .int .u64 o], .bool b]) ∧ Below W.heap.size W w') := fun W hW => by
        have hb := HBw5.out.trans (hW.mono HBw5.out.size)
        have := rwhere_any (HV5.out.below hW) (HR.out.below hb (Nat.le_refl _)) (HD.out.below hb (Nat.le_refl _)) HSn.out HLn.out (a := (a : Int)) ⟨by omega, by omega⟩
        rw [hV] at this
        exact this
      clear hV hon HX4 HMac4 HBw4 HVe
      go_wp2_with fail
      refine HW1.out.mono ?_
      rintro e w6 ⟨rfl, hb6⟩
      have HB6 : Hid (Below w5.heap.size w5 (w6.alloc (Obj.cells #[.int .i64 k, .int .i64 i, .int .u64 o] 37))) := hb6.alloc hb6.size _
      have HQ6 : Hid (Box3 (w6.alloc (Obj.cells #[.int .i64 k, .int .i64 i, .int .u64 o] 37)) w6.heap.size (.int .i64 k) (.int .i64 i) (.int .u64 o)) := heap_alloc_new w6 _
      have HZ6 : Hid (w5.heap.size ≤ w6.heap.size) := hb6.size
      clear hb6 HW1
      go_wp2_with fail
      refine (HW2.out _ HB6.out).mono ?_
      rintro e w7 ⟨rfl, hb7⟩
      have HB7 : Hid (Below w5.heap.size w5 (w7.alloc (Obj.cells #[.int .i64 k, .int .i64 i, .int .u64 o] 37))) := (HB6.out.trans (hb7.mono HB6.out.size)).alloc (Nat.le_trans HB6.out.size hb7.size) _
      have HR7 : Hid (Box3 (w7.alloc (Obj.cells #[.int .i64 k, .int .i64 i, .int .u64 o] 37)) w7.heap.size (.int .i64 k) (.int .i64 i) (.int .u64 o)) := heap_alloc_new w7 _
      have HQ7 : Hid (Box3 (w7.alloc (Obj.cells #[.int .i64 k, .int .i64 i, .int .u64 o] 37)) w6.heap.size (.int .i64 k) (.int .i64 i) (.int .u64 o)) := (HQ6.out.below hb7).below ((Below.refl _ _).alloc (Nat.le_refl _) _)
      have HZ7 : Hid (w5.heap.size ≤ w7.heap.size ∧ w6.heap.size < w7.heap.size) := ⟨Nat.le_trans HB6.out.size hb7.size, Nat.lt_of_lt_of_le HQ6.out.lt hb7.size⟩
      clear hb7 HW2 HB6 HQ6
      go_wp2_with fail
      refine (load_any (HMac5.out.below HB7.out) ha (Or.inl rfl) (Nat.zero_le _) (Nat.zero_le _)).mono ?_
      rintro e w8 ⟨x, bb, ho, rfl, hm8, hk8⟩
      rw [num_zero]
      have hm5 : m < w5.heap.size := HMac5.out.lt
      have HOff : Hid (OffR (rs ++ ds) a 1 x bb) := ho
      have HMac8 : Hid (Mac w8 m B V (fun _ => none) (fun _ => 0) rs ds (up (!bb) 0) 0 (up bb 0)) := hm8
      have HR8 : Hid (Box3 w8 w7.heap.size (.int .i64 k) (.int .i64 i) (.int .u64 o)) := HR7.out.keeps hk8 (by have := HZ7.out; omega)
      have HQ8 : Hid (Box3 w8 w6.heap.size (.int .i64 k) (.int .i64 i) (.int .u64 o)) := HQ7.out.keeps hk8 (by have := HZ6.out; omega)
      have HX8 : Hid (BoxB w8 w.heap.size (.slice ar rs.length cr) (.slice ad ds.length cd)) := (HX5.out.below HB7.out).keeps hk8 (by have := HLt.out; omega)
      have HV8 : Hid (RBox w8 v (.slice ar rs.length cr) (.slice ad ds.length cd) (.slice none 0 0) 0 0 0) := (HV5.out.below HB7.out).keeps hk8 (by have := HLv.out; omega)
      have HBw8 : Hid (Below w.heap.size w w8) := (HBw5.out.trans (HB7.out.mono HBw5.out.size)).trans (hk8.below (Nat.le_trans HBw5.out.size HB7.out.size) (fun j _ e => by have := HLt.out; omega))
      have HZ8 : Hid (w7.heap.size < w8.heap.size) := HR8.out.lt
      obtain rfl : b = !bb := off_where ho HOn.out
      clear ho hm8 hk8 HR7 HQ7 HB7 HX5 HV5 HMac5 HBw5 HOn
      unfold FaultV
      obtain ⟨why, hwhy⟩ : ∃ why : Int, why = if bb then 30 else 0 := ⟨_, rfl⟩
      have hsel : (if bb = true then (0 : Int) else ((0 : Nat) : Int)) = 0 := by cases bb <;> rfl
      rw [hsel, ← hwhy]
      have HWhy : Hid (why = if bb then 30 else 0) := hwhy
      clear hsel hwhy
      go_wp2_with fail
      have hb8 : Below w8.heap.size w8 (w8.alloc (Obj.cells #[.int .i64 why, .int .u64 x] 42)) := (Below.refl _ _).alloc (Nat.le_refl _) _
      have hbw8 := HBw8.out.trans (hb8.mono HBw8.out.size)
      refine (rload_one (HV8.out.below hb8) (HR.out.below hbw8 (Nat.le_refl _)) (HD.out.below hbw8 (Nat.le_refl _)) HSn.out HLn.out ha (Nat.zero_le _) (Nat.zero_le _)).mono ?_
      rintro e w9 ⟨x', bb', ho', rfl, hk9⟩
      obtain ⟨hxe, hbe⟩ := HOff.out.unique ho'
      subst hxe
      subst hbe
      have HX9 : Hid (BoxB w9 w.heap.size (.slice ar rs.length cr) (.slice ad ds.length cd)) := (HX8.out.below hb8).keeps hk9 (by have := HLt.out; have := HLv.out; omega)
      have hv5 := HV5LT.out
      have HQ9 : Hid (Box3 w9 w6.heap.size (.int .i64 k) (.int .i64 i) (.int .u64 o)) := (HQ8.out.below hb8).keeps hk9 (by have := HZ6.out; omega)
      have HR9 : Hid (Box3 w9 w7.heap.size (.int .i64 k) (.int .i64 i) (.int .u64 o)) := (HR8.out.below hb8).keeps hk9 (by have := HZ7.out; omega)
      have HF9 : Hid (BoxF w9 w8.heap.size why x) := (BoxF.new w8 why x).keeps hk9 (by have := HZ7.out; have := HZ8.out; omega)
      have HMac9 : Hid (Mac w9 m B V (fun _ => none) (fun _ => 0) rs ds (up (!bb) 0) 0 (up bb 0)) := (HMac8.out.below hb8).keeps hk9 (fun j hj e => by
        have := HMv.out j hj
        have := HB5.out.2
        omega)
      have HBw9 : Hid (Below w.heap.size w w9) := hbw8.trans (hk9.below (Nat.le_trans HBw8.out.size hb8.size) (fun j _ e => by have := HLt.out; have := HLv.out; omega))
      rw [← HWhy.out]
      unfold FaultV
      clear ho' hk9 hb8 hbw8 HX8 HQ8 HR8 HMac8 HV8 HBw8 hv5
      go_wp2_with fail
      have HFv : Hid (Five (w9.alloc (Obj.cells #[.int .i64 why, .int .u64 x] 46)) w.heap.size w6.heap.size w7.heap.size w8.heap.size w9.heap.size (.slice ar rs.length cr) (.slice ad ds.length cd) k i o why x) := by
        have hb : Below w9.heap.size w9 (w9.alloc (Obj.cells #[.int .i64 why, .int .u64 x] 46)) := (Below.refl _ _).alloc (Nat.le_refl _) _
        exact ⟨HX9.out.below hb, HQ9.out.below hb, HR9.out.below hb, HF9.out.below hb, BoxG.new w9 why x⟩
      have HMacA : Hid (Mac (w9.alloc (Obj.cells #[.int .i64 why, .int .u64 x] 46)) m B V (fun _ => none) (fun _ => 0) rs ds (up (!bb) 0) 0 (up bb 0)) := HMac9.out.below ((Below.refl _ _).alloc (Nat.le_refl _) _)
      have HBwA : Hid (Below w.heap.size w (w9.alloc (Obj.cells #[.int .i64 why, .int .u64 x] 46))) := HBw9.out.alloc HBw9.out.size _
      generalize hWA : w9.alloc (Obj.cells #[.int .i64 why, .int .u64 x] 46) = WA at *
      clear hWA HX9 HQ9 HR9 HF9 HMac9 HBw9
      generalize w6.heap.size = q6 at *
      generalize w7.heap.size = q7 at *
      generalize w8.heap.size = q8 at *
      generalize w9.heap.size = q9 at *
      have HBs : Hid (∀ W, Below WA.heap.size WA W → Calls Try.prog 6 #[.pointer (some ⟨m, 0, none⟩)] W fun e w' => ∃ a n c a2 n2 c2, e = .returned (.agg #[.slice a n c, .slice a2 n2 c2]) ∧ Twelve w' w.heap.size q6 q7 q8 q9 (.slice ar rs.length cr) (.slice ad ds.length cd) k i o why x ∧ Hid (Below WA.heap.size WA w') ∧ Hid (U64.SV w' (.slice a n c) rs ∧ U64.SV w' (.slice a2 n2 c2) ds)) := fun W hW => by
        refine (bus_any (HMacA.out.below hW) (by have := HLn.out; omega) (by have := HLn.out; omega)).mono ?_
        rintro e w' ⟨a, n, c, a2, n2, c2, rfl, hb, hS⟩
        have hb' := hW.trans (hb.out.mono hW.size)
        exact ⟨a, n, c, a2, n2, c2, rfl, (HFv.out.below hb').cells, hb', hS⟩
      have HSb : Hid (∀ W a n c a2 n2 c2, Below WA.heap.size WA W → U64.SV W (.slice a n c) rs ∧ U64.SV W (.slice a2 n2 c2) ds → Calls Try.prog 13 #[.agg #[.slice a n c, .slice a2 n2 c2], .agg #[.slice ar rs.length cr, .slice ad ds.length cd]] W fun e w' => e = .returned (.bool true) ∧ Twelve w' w.heap.size q6 q7 q8 q9 (.slice ar rs.length cr) (.slice ad ds.length cd) k i o why x ∧ Hid (Below WA.heap.size WA w')) := fun W a n c a2 n2 c2 hW hS => by
        have hb := HBwA.out.trans (hW.mono HBwA.out.size)
        refine (sameBus_yes hS.1 hS.2 (HR.out.below hb (Nat.le_refl _)) (HD.out.below hb (Nat.le_refl _))).mono ?_
        rintro e w' ⟨rfl, hb⟩
        have hb' := hW.trans (hb.mono hW.size)
        exact ⟨rfl, (HFv.out.below hb').cells, hb'⟩
      have HSm : Hid (∀ W, Below WA.heap.size WA W → Calls Try.prog 14 #[.agg #[.int .i64 why, .int .u64 x], .agg #[.int .i64 why, .int .u64 x]] W fun e w' => e = .returned (.bool true) ∧ Twelve w' w.heap.size q6 q7 q8 q9 (.slice ar rs.length cr) (.slice ad ds.length cd) k i o why x ∧ Hid (Below WA.heap.size WA w')) := fun W hW => by
        refine (bsame_any W).mono ?_
        rintro e w' ⟨rfl, hb⟩
        have hb' := hW.trans (hb.mono hW.size)
        exact ⟨rfl, (HFv.out.below hb').cells, hb'⟩
      have hsp : ∀ W, (binOp .eql 37 (.agg #[.int .i64 k, .int .i64 i, .int .u64 o]) (.agg #[.int .i64 k, .int .i64 i, .int .u64 o])).run Try.prog W = .ok (.bool true) W := fun W => by rw [eql_spot]; simp
      have hgs : ∀ W x y, (eqGuard .eql 37 x y (.agg #[.int .i64 k, .int .i64 i, .int .u64 o]) (.agg #[.int .i64 k, .int .i64 i, .int .u64 o])).run Try.prog W = .ok () W := fun W x y => run_eqGuard_agg W _ _ _ _ _ _ guard_spot
      have HBd : Hid (Below WA.heap.size WA WA.drew) := (Below.refl _ _).drew
      obtain ⟨z0, z1, z2, z3, z4, z5, z6, z7, z8, z9, z10, z11⟩ := HFv.out.cells
      have hb2 : ((!bb) == (why == 0)) = true := by rw [HWhy.out]; cases bb <;> rfl
      clear HMacA HWhy
      go_wp2_with fail
      go_region_held3 (fun w' => w'.cell? ⟨w.heap.size, 0, none⟩ = some (.slice ar rs.length cr) ∧ w'.cell? ⟨w.heap.size, 1, none⟩ = some (.slice ad ds.length cd) ∧ w'.cell? ⟨q6, 0, none⟩ = some (.int .i64 k) ∧ w'.cell? ⟨q6, 1, none⟩ = some (.int .i64 i) ∧ w'.cell? ⟨q6, 2, none⟩ = some (.int .u64 o) ∧ w'.cell? ⟨q7, 0, none⟩ = some (.int .i64 k) ∧ w'.cell? ⟨q7, 1, none⟩ = some (.int .i64 i) ∧ w'.cell? ⟨q7, 2, none⟩ = some (.int .u64 o) ∧ w'.cell? ⟨q8, 0, none⟩ = some (.int .i64 why) ∧ w'.cell? ⟨q8, 1, none⟩ = some (.int .u64 x) ∧ w'.cell? ⟨q9, 0, none⟩ = some (.int .i64 why) ∧ w'.cell? ⟨q9, 1, none⟩ = some (.int .u64 x)) (go_keep) (first | (go_at_call 6; refine (HBs.out _ HBd.out).mono ?_; rintro e wB ⟨a5, n5, c5, a6, n6, c6, rfl, ⟨y0, y1, y2, y3, y4, y5, y6, y7, y8, y9, y10, y11⟩, HBB, HSB⟩) | (go_at_call 13; refine (HSb.out _ _ _ _ _ _ _ HBB.out HSB.out).mono ?_; rintro e wC ⟨rfl, ⟨y0, y1, y2, y3, y4, y5, y6, y7, y8, y9, y10, y11⟩, HBC⟩) | (go_at_call 14; refine (HSm.out _ HBC.out).mono ?_; rintro e wD ⟨rfl, ⟨y0, y1, y2, y3, y4, y5, y6, y7, y8, y9, y10, y11⟩, HBD⟩))
      go_wp2_with fail
      go_ret
      exact ⟨rfl, HBwA.out.trans (HBD.out.mono HBwA.out.size)⟩
end Go.Proofs.Ytmaahompmgmkfaa
