import Derived.Test.YtgjamnhepbblhaaPk02
import Derived.Laws.StructEq
import Derived.Deep.RegionHeld3
import Derived.Test.YtgjamnhepbblhaaPk00
import Derived.Shelf.Bits.Mul64
import Derived.Lib.Hide
import Derived.BigQuiet
/- walk's Make, and the document's Entry and Make. Own work. -/
namespace Go.Proofs.Ytgjamnhepbblhaa
open Go.RowKit Wk
theorem same_ent (w : World) (x y : Ent) : (Op.equalIn 10000 91 (EntV x) (EntV y)).run Try.prog w = .ok (x == y) w := by
  obtain ⟨a, b, c, d, e⟩ := x
  obtain ⟨a', b', c', d', e'⟩ := y
  have u1 := Try.underlying4
  have a1 := Try.isAgg4
  have z1 := Try.sizeOf4
  have u := Try.underlying23
  have a2 := Try.isAgg23
  have z := Try.sizeOf23
  have hS : Try.prog.underlying 91 = some (.struct (Try.prog.fieldsOf 91)) := by kernel_rfl
  have hp : Try.prog.stoodInHeld 91 = false := by kernel_rfl
  have he : (((a, b, c, d, e) : Ent) == (a', b', c', d', e')) = ((a == a') && ((b == b') && ((c == c') && ((d == d') && (e == e'))))) := rfl
  rw [he, EntV, EntV, show (10000 : Nat) = 9999 + 1 from rfl, run_equalIn_agg w 9999 91 _ _ hS hp]
  simp only [Program.fieldsOf, Try.underlying91]
  go_simp
  by_cases h1 : a = a'
  · subst h1
    cases b <;> cases b' <;> cases c <;> cases c' <;> cases d <;> cases d' <;> cases e <;> cases e' <;> simp
  · have : (a == a') = false := by simpa using h1
    have h2 : ¬ (a : Int) = (a' : Int) := by omega
    rw [this]
    simp [h2]
theorem eql_ent (w : World) (x y : Ent) : (binOp .eql 91 (EntV x) (EntV y)).run Try.prog w = .ok (.bool (x == y)) w := by
  have := same_ent w x y
  rw [EntV, EntV] at *
  rw [run_eql_struct, this]
  rfl
theorem neq_ent (w : World) (x y : Ent) : (binOp .neq 91 (EntV x) (EntV y)).run Try.prog w = .ok (.bool (x != y)) w := by
  have := same_ent w x y
  rw [EntV, EntV] at *
  rw [run_neq_struct, this]
  rfl
theorem guard_ent : Try.prog.eqGuardType Try.prog.depth 91 = false := by kernel_rfl
theorem wpList_eql_ent {w : World} {ops : Array Oper} {rest : List Oper} {o : Oper} {a : Act} {Q : Exit → Act → World → Prop} (hw : Region.wanted o (yielded ops a.tmps) = true) (x y : Operand) {t' : TypeId} (ho : o.op = .binOp .eql 91 x y t') {p q : Ent} {b : Bool} (hx : a.eval x = EntV p) (hy : a.eval y = EntV q) (hb : (p == q) = b)
    (hK : wpList Try.prog ops Q rest (a.put o.dst (.bool b)) w) : wpList Try.prog ops Q (o :: rest) a w := by
  refine wpList_step fun K' hK' => ?_
  rw [if_pos hw]
  unfold Oper.wp execOp
  have hg : (eqGuard .eql 91 x y (EntV p) (EntV q)).run Try.prog w = .ok () w := run_eqGuard_agg w _ _ _ _ _ _ guard_ent
  simp only [ho, hx, hy, Sem.run_bind, Sem.run_pure, Result.andThen_ok, hg, eql_ent, hb]
  exact hK' _ _ hK
theorem wpList_neq_ent {w : World} {ops : Array Oper} {rest : List Oper} {o : Oper} {a : Act} {Q : Exit → Act → World → Prop} (hw : Region.wanted o (yielded ops a.tmps) = true) (x y : Operand) {t' : TypeId} (ho : o.op = .binOp .neq 91 x y t') {p q : Ent} {b : Bool} (hx : a.eval x = EntV p) (hy : a.eval y = EntV q) (hb : (p != q) = b)
    (hK : wpList Try.prog ops Q rest (a.put o.dst (.bool b)) w) : wpList Try.prog ops Q (o :: rest) a w := by
  refine wpList_step fun K' hK' => ?_
  rw [if_pos hw]
  unfold Oper.wp execOp
  have hg : (eqGuard .neq 91 x y (EntV p) (EntV q)).run Try.prog w = .ok () w := run_eqGuard_agg w _ _ _ _ _ _ guard_ent
  simp only [ho, hx, hy, Sem.run_bind, Sem.run_pure, Result.andThen_ok, hg, neq_ent, hb]
  exact hK' _ _ hK
theorem or_lt {a b : Nat} (ha : a < 18446744073709551616) (hb : b < 18446744073709551616) : a ||| b < 18446744073709551616 := Nat.or_lt_two_pow (n := 64) ha hb
theorem nbit_lt (b : Bool) {n : Nat} (h : n < 18446744073709551616) : nbit b n < 18446744073709551616 := by
  cases b
  · exact (by decide : 0 < 18446744073709551616)
  · exact h
def MakePost (w : World) (r : Nat × Int) (x : Ending) (w' : World) : Prop := x = .returned (.tuple #[.int .u64 (r.1 : Int), .int .i64 r.2]) ∧ Below w.heap.size w w'
set_option maxRecDepth 100000 in
set_option maxHeartbeats 4000000 in
theorem make_any {x : Ent} (hx : x.1 < 18446744073709551616) (l : Int) (w : World) :
    Calls Try.prog 53 #[EntV x, .int .i64 l] w (MakePost w (makeB x l)) := by
  obtain ⟨F, t, b, c, d⟩ := x
  have hF : F < 18446744073709551616 := hx
  have L2 := nbit_lt c (n := 2) (by decide)
  have L4 := nbit_lt d (n := 4) (by decide)
  have L8 := nbit_lt b (n := 8) (by decide)
  have HB2 : Hid (∀ W, Calls Try.prog 54 #[.bool c, .int .u64 2] W fun x w' => x = .returned (.int .u64 ((nbit c 2 : Nat) : Int)) ∧ w' = W) := bit_any c 2
  have HB4 : Hid (∀ W, Calls Try.prog 54 #[.bool d, .int .u64 4] W fun x w' => x = .returned (.int .u64 ((nbit d 4 : Nat) : Int)) ∧ w' = W) := bit_any d 4
  have HB8 : Hid (∀ W, Calls Try.prog 54 #[.bool b, .int .u64 8] W fun x w' => x = .returned (.int .u64 ((nbit b 8 : Nat) : Int)) ∧ w' = W) := bit_any b 8
  have o1 : bits .or .u64 1 (F : Int) = ((1 ||| F : Nat) : Int) := u64_or_nat 1 F (by decide) hF
  have l1 := or_lt (a := 1) (by decide) hF
  have o2 := u64_or_nat _ _ l1 L2
  have l2 := or_lt l1 L2
  have o3 := u64_or_nat _ _ l2 L4
  have l3 := or_lt l2 L4
  have o4 := u64_or_nat _ _ l3 L8
  have l4 := or_lt l3 L8
  have HR : Hid (rawE (F, t, b, c, d) = 1 ||| F ||| nbit c 2 ||| nbit d 4 ||| nbit b 8) := rfl
  have HM : Hid (makeB (F, t, b, c, d) l = if l < 0 ∨ 2 < l then (0, 1) else if entB (rawE (F, t, b, c, d)) l = ((F, t, b, c, d), 0) then (rawE (F, t, b, c, d), 0) else (0, 42)) := rfl
  generalize 1 ||| F ||| nbit c 2 ||| nbit d 4 ||| nbit b 8 = R at *
  generalize 1 ||| F ||| nbit c 2 ||| nbit d 4 = R3 at *
  generalize 1 ||| F ||| nbit c 2 = R2 at *
  generalize 1 ||| F = R1 at *
  generalize nbit c 2 = n2 at *
  generalize nbit d 4 = n4 at *
  generalize nbit b 8 = n8 at *
  obtain ⟨F', t', b', c', d', k, hs⟩ : ∃ F' t' b' c' d' k, entB R l = ((F', t', b', c', d'), k) := ⟨_, _, _, _, _, _, rfl⟩
  have HE : Hid (∀ W, Calls Try.prog 55 #[.int .u64 (R : Int), .int .i64 l] W (EntPost W ((F', t', b', c', d'), k))) := fun W => hs ▸ entry_any l4 l W
  have hcase : (k = 1 ∧ makeB (F, t, b, c, d) l = (0, 1)) ∨ (k ≠ 1 ∧ k ≠ 0 ∧ makeB (F, t, b, c, d) l = (0, 42)) ∨ (k = 0 ∧ ((F', t', b', c', d') != (F, t, b, c, d)) = true ∧ makeB (F, t, b, c, d) l = (0, 42)) ∨ (k = 0 ∧ ((F', t', b', c', d') != (F, t, b, c, d)) = false ∧ makeB (F, t, b, c, d) l = (R, 0)) := by
    rw [HM.out, HR.out, hs]
    by_cases hl : l < 0 ∨ 2 < l
    · rw [if_pos hl]
      rw [entB, if_pos hl] at hs
      exact .inl ⟨(congrArg Prod.snd hs).symm, rfl⟩
    · rw [if_neg hl]
      by_cases k0 : k = 0
      · subst k0
        by_cases he : ((F', t', b', c', d') : Ent) = (F, t, b, c, d)
        · rw [he, if_pos rfl]
          exact .inr (.inr (.inr ⟨rfl, by simp, rfl⟩))
        · rw [if_neg (fun h => he (congrArg Prod.fst h))]
          exact .inr (.inr (.inl ⟨rfl, bne_iff_ne.2 he, rfl⟩))
      · rw [if_neg (fun h => k0 (congrArg Prod.snd h))]
        refine .inr (.inl ⟨fun h => ?_, k0, rfl⟩)
        subst h
        rw [entB, if_neg hl] at hs
        split at hs
        · cases congrArg Prod.snd hs
        · split at hs
          · cases congrArg Prod.snd hs
          · cases congrArg Prod.snd hs
  clear hs L2 L4 L8 l1 l2 l3 l4 hx HM HR
  rw [EntV]
  rcases hcase with ⟨hk, hm⟩ | ⟨hk1, hk0, hm⟩ | ⟨hk, hne, hm⟩ | ⟨hk, hne, hm⟩
  all_goals rw [hm]; clear hm
  all_goals
    go_enter Try.func53, Try.ntmps53
    go_wp2_with fail
    go_region_held3 (fun w' => w'.cell? ⟨w.heap.size, 0, none⟩ = some (.int .u64 (F : Int)) ∧ w'.cell? ⟨w.heap.size, 2, none⟩ = some (.bool b) ∧ w'.cell? ⟨w.heap.size, 3, none⟩ = some (.bool c) ∧ w'.cell? ⟨w.heap.size, 4, none⟩ = some (.bool d)) (go_keep) (first | (go_at_call 54; first | (refine (HB2.out _).mono ?_; rintro e w1 ⟨rfl, rfl⟩) | (refine (HB4.out _).mono ?_; rintro e w1 ⟨rfl, rfl⟩) | (refine (HB8.out _).mono ?_; rintro e w1 ⟨rfl, rfl⟩)))
    go_wp2_with fail
    refine (HE.out _).mono ?_
    rintro e w1 ⟨rfl, hb1⟩
    have HX : Hid (BoxE w1 w.heap.size (F, t, b, c, d)) := BoxE.below (w := (w.alloc (.cells #[.int .u64 (F : Int), .bool t, .bool b, .bool c, .bool d] 91)).drew) (BoxE.new w (F, t, b, c, d)) hb1
    have HB : Hid (Below w.heap.size w w1) := ((Below.refl _ _).alloc (Nat.le_refl _) _).drew.trans (hb1.mono (by simp))
    obtain ⟨x0, x1, x2, x3, x4⟩ := (HX.out.below ((Below.refl _ _).alloc (Nat.le_refl _) (Obj.cells #[.int .u64 (F' : Int), .bool t', .bool b', .bool c', .bool d'] 91))).cells
    clear hb1 HB2 HB4 HB8 HE
    simp only [EntV] at *
  · subst hk
    go_wp2_with fail
    go_ret2
    exact ⟨rfl, HB.out.alloc HB.out.size _⟩
  · go_wp2_with fail
    go_ret2
    exact ⟨rfl, HB.out.alloc HB.out.size _⟩
  · subst hk
    go_wp2_with (refine wpList_neq_ent rfl _ _ rfl (p := (F', t', b', c', d')) (q := (F, t, b, c, d)) rfl rfl hne ?_)
    go_ret2
    exact ⟨rfl, HB.out.alloc HB.out.size _⟩
  · subst hk
    go_wp2_with (refine wpList_neq_ent rfl _ _ rfl (p := (F', t', b', c', d')) (q := (F, t, b, c, d)) rfl rfl hne ?_)
    go_ret2
    exact ⟨rfl, HB.out.alloc HB.out.size _⟩
end Go.Proofs.Ytgjamnhepbblhaa
/- Pages: the small functions (sums, units, numbers of entries). Own work. -/
namespace Go.Proofs.Ytgjamnhepbblhaa
open Go.RowKit
set_option linter.unusedVariables false
def ren264 : Go.Shelf.Ren := ⟨fun | 264 => 49 | n => n, fun | 53 => 23 | 46 => 98 | n => n, fun | n => n⟩
theorem lays264 : Go.Proofs.Lays.n264 Try.prog ren264 := {
  mixed := by kernel_rfl
  f264 := Try.func49.trans (congrArg some (by kernel_rfl))
  t46 := Try.underlying98
  a46 := Try.isAgg98
  z46 := Try.sizeOf98
  v46 := Try.zeroValue98
  t53 := Try.underlying23
  a53 := Try.isAgg23
  z53 := Try.sizeOf23
  v53 := Try.zeroValue23 }
theorem mul64_any {x y : Nat} (hx : x ≤ 18446744073709551615) (hy : y ≤ 18446744073709551615) (w : World) :
    Calls Try.prog 49 #[.int .u64 (x : Int), .int .u64 (y : Int)] w fun e w' => e = .returned (.tuple #[.int .u64 ((x * y / 18446744073709551616 : Nat) : Int), .int .u64 ((x * y % 18446744073709551616 : Nat) : Int)]) ∧ w' = w :=
  Any.bits_Mul64 lays264 x y (by omega) (by omega) w
set_option maxRecDepth 100000 in
set_option maxHeartbeats 1000000 in
theorem to_any {x : Nat} (hx : x ≤ 18446744073709551615) (w : World) : Calls Try.prog 50 #[.int .u64 (x : Int)] w fun e w' => e = .returned (.tuple #[.int .u64 (x : Int), .bool true]) ∧ w' = w := by
  have HG : Hid (∀ W, Calls Try.prog 51 #[] W fun e w' => e = .returned (.int .u64 18446744073709551615) ∧ w' = W) := fun W => greatest_u64 W
  have j : (x : Int) ≤ 18446744073709551615 := by omega
  go_enter Try.func50, Try.ntmps50
  go_wp2_with (go_at_call 51; refine (HG.out _).mono ?_; rintro e w' ⟨rfl, hw⟩; have hw := hw.symm; subst hw)
  go_ret2
  exact ⟨rfl, rfl⟩
set_option maxRecDepth 100000 in
set_option maxHeartbeats 1000000 in
theorem mul_any {x y : Nat} (hx : x ≤ 18446744073709551615) (hy : y ≤ 18446744073709551615) (w : World) : Calls Try.prog 42 #[.int .u64 (x : Int), .int .u64 (y : Int)] w fun e w' => e = .returned (if x * y ≤ 18446744073709551615 then .tuple #[.int .u64 ((x * y : Nat) : Int), .bool true] else .tuple #[.int .u64 0, .bool false]) ∧ w' = w := by
  have HM := Lib.hid (mul64_any hx hy w)
  by_cases h : x * y ≤ 18446744073709551615
  · rw [if_pos h]
    have e1 : x * y / 18446744073709551616 = 0 := Nat.div_eq_of_lt (by omega)
    have e2 : x * y % 18446744073709551616 = x * y := Nat.mod_eq_of_lt (by omega)
    rw [e1, e2] at HM
    obtain ⟨P, hP⟩ : ∃ P, x * y = P := ⟨_, rfl⟩
    rw [hP] at HM h ⊢
    have HT := Lib.hid (to_any h w)
    clear e1 e2 hP
    go_enter Try.func42, Try.ntmps42
    go_wp2_with fail
    refine HM.out.mono ?_
    rintro e w' ⟨rfl, hw⟩
    subst hw
    go_wp2_with fail
    refine HT.out.mono ?_
    rintro e w2 ⟨rfl, hw⟩
    subst hw
    go_wp2_with fail
    go_ret2
    exact ⟨rfl, rfl⟩
  · rw [if_neg h]
    obtain ⟨D, hD⟩ : ∃ D, x * y / 18446744073709551616 = D := ⟨_, rfl⟩
    have hD0 : 0 < D := by rw [← hD]; exact Nat.div_pos (by omega) (by decide)
    rw [hD] at HM
    generalize x * y % 18446744073709551616 = R at HM
    have jD : (D : Int) ≠ 0 := by omega
    clear hD h
    go_enter Try.func42, Try.ntmps42
    go_wp2_with fail
    refine HM.out.mono ?_
    rintro e w' ⟨rfl, hw⟩
    subst hw
    go_wp2_with fail
    go_ret2
    exact ⟨rfl, rfl⟩
set_option maxRecDepth 100000 in
set_option maxHeartbeats 1000000 in
theorem add_any {x y : Nat} (hx : x ≤ 18446744073709551615) (hy : y ≤ 18446744073709551615) (w : World) : Calls Try.prog 43 #[.int .u64 (x : Int), .int .u64 (y : Int)] w fun e w' => e = .returned (if x + y ≤ 18446744073709551615 then .tuple #[.int .u64 ((x + y : Nat) : Int), .bool true] else .tuple #[.int .u64 0, .bool false]) ∧ w' = w := by
  have HG : Hid (∀ W, Calls Try.prog 51 #[] W fun e w' => e = .returned (.int .u64 18446744073709551615) ∧ w' = W) := fun W => greatest_u64 W
  have hs : IntKind.u64.wrap (18446744073709551615 - (x : Int)) = 18446744073709551615 - (x : Int) := by rw [IntKind.wrap_u64]; omega
  by_cases h : x + y ≤ 18446744073709551615
  · rw [if_pos h]
    have j : ¬ 18446744073709551615 - (x : Int) < (y : Int) := by omega
    have hw2 : IntKind.u64.wrap ((x : Int) + (y : Int)) = ((x + y : Nat) : Int) := by rw [IntKind.wrap_u64]; omega
    go_enter Try.func43, Try.ntmps43
    go_wp2_with (go_at_call 51; refine (HG.out _).mono ?_; rintro e w' ⟨rfl, hw⟩; have hw := hw.symm; subst hw)
    go_ret2
    exact ⟨rfl, rfl⟩
  · rw [if_neg h]
    have j : 18446744073709551615 - (x : Int) < (y : Int) := by omega
    go_enter Try.func43, Try.ntmps43
    go_wp2_with (go_at_call 51; refine (HG.out _).mono ?_; rintro e w' ⟨rfl, hw⟩; have hw := hw.symm; subst hw)
    go_ret2
    exact ⟨rfl, rfl⟩
/-- so many pages from an address on end at a bound, or ahead of it -/
def winB (a p bound : Nat) : Bool := decide (a + p * 4096 ≤ bound)
set_option maxRecDepth 100000 in
set_option maxHeartbeats 2000000 in
theorem pwithin_any {a p bound : Nat} (ha : a ≤ 18446744073709551615) (hp : p ≤ 9223372036854775807) (hb : bound ≤ 18446744073709551615) (w : World) : Calls Try.prog 33 #[.int .u64 (a : Int), .int .i64 (p : Int), .int .u64 (bound : Int)] w fun e w' => e = .returned (.bool (winB a p bound)) ∧ w' = w := by
  have hw : IntKind.u64.wrap (p : Int) = (p : Int) := by rw [IntKind.wrap_u64]; omega
  have HM := Lib.hid (mul_any (x := p) (y := 4096) (by omega) (by omega) w)
  by_cases h1 : p * 4096 ≤ 18446744073709551615
  · rw [if_pos h1] at HM
    have HA := Lib.hid (add_any ha h1 w)
    by_cases h2 : a + p * 4096 ≤ 18446744073709551615
    · rw [if_pos h2] at HA
      by_cases h3 : a + p * 4096 ≤ bound
      · have e : winB a p bound = true := decide_eq_true h3
        rw [e]
        clear e
        generalize p * 4096 = q at *
        have j3 : ((a + q : Nat) : Int) ≤ (bound : Int) := by omega
        go_enter Try.func33, Try.ntmps33
        go_wp2_with fail
        refine HM.out.mono ?_
        rintro e w' ⟨rfl, hw'⟩
        subst hw'
        go_wp2_with fail
        refine HA.out.mono ?_
        rintro e w2 ⟨rfl, hw'⟩
        subst hw'
        generalize a + q = s at *
        go_wp2_with fail
        go_ret
        exact ⟨rfl, rfl⟩
      · have e : winB a p bound = false := decide_eq_false h3
        rw [e]
        clear e
        generalize p * 4096 = q at *
        have j3 : ¬ ((a + q : Nat) : Int) ≤ (bound : Int) := by omega
        go_enter Try.func33, Try.ntmps33
        go_wp2_with fail
        refine HM.out.mono ?_
        rintro e w' ⟨rfl, hw'⟩
        subst hw'
        go_wp2_with fail
        refine HA.out.mono ?_
        rintro e w2 ⟨rfl, hw'⟩
        subst hw'
        generalize a + q = s at *
        go_wp2_with fail
        go_ret
        exact ⟨rfl, rfl⟩
    · rw [if_neg h2] at HA
      have e : winB a p bound = false := decide_eq_false (by omega)
      rw [e]
      clear e
      generalize p * 4096 = q at *
      go_enter Try.func33, Try.ntmps33
      go_wp2_with fail
      refine HM.out.mono ?_
      rintro e w' ⟨rfl, hw'⟩
      subst hw'
      go_wp2_with fail
      refine HA.out.mono ?_
      rintro e w2 ⟨rfl, hw'⟩
      subst hw'
      go_wp2_with fail
      go_ret
      exact ⟨rfl, rfl⟩
  · rw [if_neg h1] at HM
    have e : winB a p bound = false := decide_eq_false (by omega)
    have HA := Lib.hid (add_any ha (show 0 ≤ 18446744073709551615 by omega) w)
    rw [if_pos (by omega)] at HA
    rw [e]
    clear e h1
    go_enter Try.func33, Try.ntmps33
    go_wp2_with fail
    refine HM.out.mono ?_
    rintro e w' ⟨rfl, hw'⟩
    subst hw'
    go_wp2_with fail
    refine HA.out.mono ?_
    rintro e w2 ⟨rfl, hw'⟩
    subst hw'
    go_wp2_with fail
    go_ret
    exact ⟨rfl, rfl⟩
/-- a row -/
structure L6 where
  v : Nat
  p : Nat
  n : Int
  big : Bool
  wr : Bool
  ex : Bool
def V6 (x : L6) : Value := .agg #[.int .u64 (x.v : Int), .int .u64 (x.p : Int), .int .i64 x.n, .bool x.big, .bool x.wr, .bool x.ex]
def unitF (x : L6) : Nat := if x.big = true then 2097152 else 4096
set_option maxRecDepth 100000 in
set_option maxHeartbeats 1000000 in
theorem unit_any (x : L6) (w : World) : Calls Try.prog 46 #[V6 x] w fun e w' => e = .returned (.int .u64 (unitF x : Int)) ∧ Below w.heap.size w w' := by
  obtain ⟨v, p, n, big, wr, ex⟩ := x
  unfold V6 unitF
  cases big with
  | true =>
    go_enter Try.func46, Try.ntmps46
    go_wp2_with fail
    go_ret
    exact ⟨rfl, (Below.refl _ _).alloc (Nat.le_refl _) _⟩
  | false =>
    go_enter Try.func46, Try.ntmps46
    go_wp2_with fail
    go_ret
    exact ⟨rfl, (Below.refl _ _).alloc (Nat.le_refl _) _⟩
set_option maxRecDepth 100000 in
set_option maxHeartbeats 1000000 in
theorem size_any {x : L6} {m : Nat} (hm : x.n = (m : Int)) (hs : m * 4096 ≤ 18446744073709551615) (w : World) : Calls Try.prog 45 #[V6 x] w fun e w' => e = .returned (.int .u64 ((m * 4096 : Nat) : Int)) ∧ Below w.heap.size w w' := by
  obtain ⟨v, p, n, big, wr, ex⟩ := x
  simp only at hm
  subst hm
  unfold V6
  have h1 : IntKind.u64.wrap (m : Int) = (m : Int) := by rw [IntKind.wrap_u64]; omega
  have h2 : IntKind.u64.wrap ((m : Int) * 4096) = ((m * 4096 : Nat) : Int) := by rw [IntKind.wrap_u64]; omega
  go_enter Try.func45, Try.ntmps45
  go_wp2_with fail
  go_ret
  exact ⟨rfl, (Below.refl _ _).alloc (Nat.le_refl _) _⟩
set_option maxRecDepth 100000 in
set_option maxHeartbeats 1000000 in
theorem leafLevel_any (b : Bool) (w : World) : Calls Try.prog 40 #[.bool b] w fun e w' => e = .returned (.int .i64 (if b = true then 1 else 2)) ∧ w' = w := by
  cases b with
  | true =>
    go_enter Try.func40, Try.ntmps40
    go_wp2_with fail
    go_ret
    exact ⟨rfl, rfl⟩
  | false =>
    go_enter Try.func40, Try.ntmps40
    go_wp2_with fail
    go_ret
    exact ⟨rfl, rfl⟩
def thrF (v l : Nat) : Nat := v / 2 ^ (30 - 9 * l)
set_option maxRecDepth 100000 in
set_option maxHeartbeats 1000000 in
theorem through_any (v l : Nat) (hl : l ≤ 2) (w : World) : Calls Try.prog 41 #[.int .u64 (v : Int), .int .i64 (l : Int)] w fun e w' => e = .returned (.int .u64 (thrF v l : Int)) ∧ w' = w := by
  unfold thrF
  rcases (by omega : l = 0 ∨ l = 1 ∨ l = 2) with rfl | rfl | rfl
  all_goals
    go_enter Try.func41, Try.ntmps41
    go_wp2_with fail
    go_ret
    exact ⟨by simp, rfl⟩
set_option maxRecDepth 100000 in
set_option maxHeartbeats 1000000 in
theorem number_any (v l : Nat) (hl : l ≤ 2) (w : World) : Calls Try.prog 52 #[.int .u64 (v : Int), .int .i64 (l : Int)] w fun e w' => e = .returned (.int .u64 ((thrF v l % 512 : Nat) : Int)) ∧ w' = w := by
  have HT := Lib.hid (through_any v l hl w)
  generalize thrF v l = t at *
  have jd : (t : Int).tmod 512 = ((t % 512 : Nat) : Int) := rfl
  go_enter Try.func52, Try.ntmps52
  go_wp2_with fail
  refine HT.out.mono ?_
  rintro e w' ⟨rfl, hw⟩
  subst hw
  go_wp2_with fail
  go_ret
  exact ⟨rfl, rfl⟩
end Go.Proofs.Ytgjamnhepbblhaa
