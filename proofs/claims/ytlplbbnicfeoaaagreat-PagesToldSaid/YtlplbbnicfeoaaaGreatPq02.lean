import Derived.Test.YtlplbbnicfeoaaaGreatPq01
import Derived.Laws.StructEq
import Derived.Deep.RegionHeld3
import Derived.Test.YtlplbbnicfeoaaaGreatPq00
import Derived.Shelf.Bits.Mul64
import Derived.Lib.Hide
import Derived.BigQuiet
import Derived.WalkKit
import Derived.WalkSpells
import Derived.WalkLawsBesides
import Derived.Deep.WholeRow
import Derived.Deep.MidRow
import Derived.Laws.ResultCell
import Derived.Shelf.Abstract
import Derived.ChangeKeysEq
import Derived.RegionTactic
import Derived.Deep.DeepCutAuto
/- walk's Make, and the document's Entry and Make. Own work. -/
namespace Go.Proofs.YtlplbbnicfeoaaaGreat
open Go.RowKit Wk
theorem same_ent (w : World) (x y : Ent) : (Op.equalIn 10000 87 (EntV x) (EntV y)).run Tryz.prog w = .ok (x == y) w := by
  obtain ⟨a, b, c, d, e⟩ := x
  obtain ⟨a', b', c', d', e'⟩ := y
  have u1 := Tryz.underlying4
  have a1 := Tryz.isAgg4
  have z1 := Tryz.sizeOf4
  have u := Tryz.underlying23
  have a2 := Tryz.isAgg23
  have z := Tryz.sizeOf23
  have hS : Tryz.prog.underlying 87 = some (.struct (Tryz.prog.fieldsOf 87)) := by kernel_rfl
  have hp : Tryz.prog.stoodInHeld 87 = false := by kernel_rfl
  have he : (((a, b, c, d, e) : Ent) == (a', b', c', d', e')) = ((a == a') && ((b == b') && ((c == c') && ((d == d') && (e == e'))))) := rfl
  rw [he, EntV, EntV, show (10000 : Nat) = 9999 + 1 from rfl, run_equalIn_agg w 9999 87 _ _ hS hp]
  simp only [Program.fieldsOf, Tryz.underlying87]
  go_simp
  by_cases h1 : a = a'
  · subst h1
    cases b <;> cases b' <;> cases c <;> cases c' <;> cases d <;> cases d' <;> cases e <;> cases e' <;> simp
  · have : (a == a') = false := by simpa using h1
    have h2 : ¬ (a : Int) = (a' : Int) := by omega
    rw [this]
    simp [h2]
theorem eql_ent (w : World) (x y : Ent) : (binOp .eql 87 (EntV x) (EntV y)).run Tryz.prog w = .ok (.bool (x == y)) w := by
  have := same_ent w x y
  rw [EntV, EntV] at *
  rw [run_eql_struct, this]
  rfl
theorem neq_ent (w : World) (x y : Ent) : (binOp .neq 87 (EntV x) (EntV y)).run Tryz.prog w = .ok (.bool (x != y)) w := by
  have := same_ent w x y
  rw [EntV, EntV] at *
  rw [run_neq_struct, this]
  rfl
theorem guard_ent : Tryz.prog.eqGuardType Tryz.prog.depth 87 = false := by kernel_rfl
theorem wpList_eql_ent {w : World} {ops : Array Oper} {rest : List Oper} {o : Oper} {a : Act} {Q : Exit → Act → World → Prop} (hw : Region.wanted o (yielded ops a.tmps) = true) (x y : Operand) {t' : TypeId} (ho : o.op = .binOp .eql 87 x y t') {p q : Ent} {b : Bool} (hx : a.eval x = EntV p) (hy : a.eval y = EntV q) (hb : (p == q) = b)
    (hK : wpList Tryz.prog ops Q rest (a.put o.dst (.bool b)) w) : wpList Tryz.prog ops Q (o :: rest) a w := by
  refine wpList_step fun K' hK' => ?_
  rw [if_pos hw]
  unfold Oper.wp execOp
  have hg : (eqGuard .eql 87 x y (EntV p) (EntV q)).run Tryz.prog w = .ok () w := run_eqGuard_agg w _ _ _ _ _ _ guard_ent
  simp only [ho, hx, hy, Sem.run_bind, Sem.run_pure, Result.andThen_ok, hg, eql_ent, hb]
  exact hK' _ _ hK
theorem wpList_neq_ent {w : World} {ops : Array Oper} {rest : List Oper} {o : Oper} {a : Act} {Q : Exit → Act → World → Prop} (hw : Region.wanted o (yielded ops a.tmps) = true) (x y : Operand) {t' : TypeId} (ho : o.op = .binOp .neq 87 x y t') {p q : Ent} {b : Bool} (hx : a.eval x = EntV p) (hy : a.eval y = EntV q) (hb : (p != q) = b)
    (hK : wpList Tryz.prog ops Q rest (a.put o.dst (.bool b)) w) : wpList Tryz.prog ops Q (o :: rest) a w := by
  refine wpList_step fun K' hK' => ?_
  rw [if_pos hw]
  unfold Oper.wp execOp
  have hg : (eqGuard .neq 87 x y (EntV p) (EntV q)).run Tryz.prog w = .ok () w := run_eqGuard_agg w _ _ _ _ _ _ guard_ent
  simp only [ho, hx, hy, Sem.run_bind, Sem.run_pure, Result.andThen_ok, hg, neq_ent, hb]
  exact hK' _ _ hK
theorem or_lt {a b : Nat} (ha : a < 18446744073709551616) (hb : b < 18446744073709551616) : a ||| b < 18446744073709551616 := Nat.or_lt_two_pow (n := 64) ha hb
theorem nbit_lt (b : Bool) {n : Nat} (h : n < 18446744073709551616) : nbit b n < 18446744073709551616 := by
  cases b
  · exact (by decide : 0 < 18446744073709551616)
  · exact h
def MakePost (w : World) (r : Nat × Int) (x : Ending) (w' : World) : Prop := x = .returned (.tuple #[.int .u64 (r.1 : Int), .int .i64 r.2]) ∧ Below w.heap.size w w'
set_option maxRecDepth 100000 in
set_option maxHeartbeats 4000000 in
theorem make_any {x : Ent} (hx : x.1 < 18446744073709551616) (l : Int) (w : World) :
    Calls Tryz.prog 61 #[EntV x, .int .i64 l] w (MakePost w (makeB x l)) := by
  obtain ⟨F, t, b, c, d⟩ := x
  have hF : F < 18446744073709551616 := hx
  have L2 := nbit_lt c (n := 2) (by decide)
  have L4 := nbit_lt d (n := 4) (by decide)
  have L8 := nbit_lt b (n := 8) (by decide)
  have HB2 : Hid (∀ W, Calls Tryz.prog 81 #[.bool c, .int .u64 2] W fun x w' => x = .returned (.int .u64 ((nbit c 2 : Nat) : Int)) ∧ w' = W) := bit_any c 2
  have HB4 : Hid (∀ W, Calls Tryz.prog 81 #[.bool d, .int .u64 4] W fun x w' => x = .returned (.int .u64 ((nbit d 4 : Nat) : Int)) ∧ w' = W) := bit_any d 4
  have HB8 : Hid (∀ W, Calls Tryz.prog 81 #[.bool b, .int .u64 8] W fun x w' => x = .returned (.int .u64 ((nbit b 8 : Nat) : Int)) ∧ w' = W) := bit_any b 8
  have o1 : bits .or .u64 1 (F : Int) = ((1 ||| F : Nat) : Int) := u64_or_nat 1 F (by decide) hF
  have l1 := or_lt (a := 1) (by decide) hF
  have o2 := u64_or_nat _ _ l1 L2
  have l2 := or_lt l1 L2
  have o3 := u64_or_nat _ _ l2 L4
  have l3 := or_lt l2 L4
  have o4 := u64_or_nat _ _ l3 L8
  have l4 := or_lt l3 L8
  have HR : Hid (rawE (F, t, b, c, d) = 1 ||| F ||| nbit c 2 ||| nbit d 4 ||| nbit b 8) := rfl
  have HM : Hid (makeB (F, t, b, c, d) l = if l < 0 ∨ 2 < l then (0, 1) else if entB (rawE (F, t, b, c, d)) l = ((F, t, b, c, d), 0) then (rawE (F, t, b, c, d), 0) else (0, 42)) := rfl
  generalize 1 ||| F ||| nbit c 2 ||| nbit d 4 ||| nbit b 8 = R at *
  generalize 1 ||| F ||| nbit c 2 ||| nbit d 4 = R3 at *
  generalize 1 ||| F ||| nbit c 2 = R2 at *
  generalize 1 ||| F = R1 at *
  generalize nbit c 2 = n2 at *
  generalize nbit d 4 = n4 at *
  generalize nbit b 8 = n8 at *
  obtain ⟨F', t', b', c', d', k, hs⟩ : ∃ F' t' b' c' d' k, entB R l = ((F', t', b', c', d'), k) := ⟨_, _, _, _, _, _, rfl⟩
  have HE : Hid (∀ W, Calls Tryz.prog 82 #[.int .u64 (R : Int), .int .i64 l] W (EntPost W ((F', t', b', c', d'), k))) := fun W => hs ▸ entry_any l4 l W
  have hcase : (k = 1 ∧ makeB (F, t, b, c, d) l = (0, 1)) ∨ (k ≠ 1 ∧ k ≠ 0 ∧ makeB (F, t, b, c, d) l = (0, 42)) ∨ (k = 0 ∧ ((F', t', b', c', d') != (F, t, b, c, d)) = true ∧ makeB (F, t, b, c, d) l = (0, 42)) ∨ (k = 0 ∧ ((F', t', b', c', d') != (F, t, b, c, d)) = false ∧ makeB (F, t, b, c, d) l = (R, 0)) := by
    rw [HM.out, HR.out, hs]
    by_cases hl : l < 0 ∨ 2 < l
    · rw [if_pos hl]
      rw [entB, if_pos hl] at hs
      exact .inl ⟨(congrArg Prod.snd hs).symm, rfl⟩
    · rw [if_neg hl]
      by_cases k0 : k = 0
      · subst k0
        by_cases he : ((F', t', b', c', d') : Ent) = (F, t, b, c, d)
        · rw [he, if_pos rfl]
          exact .inr (.inr (.inr ⟨rfl, by simp, rfl⟩))
        · rw [if_neg (fun h => he (congrArg Prod.fst h))]
          exact .inr (.inr (.inl ⟨rfl, bne_iff_ne.2 he, rfl⟩))
      · rw [if_neg (fun h => k0 (congrArg Prod.snd h))]
        refine .inr (.inl ⟨fun h => ?_, k0, rfl⟩)
        subst h
        rw [entB, if_neg hl] at hs
        split at hs
        · cases congrArg Prod.snd hs
        · split at hs
          · cases congrArg Prod.snd hs
          · cases congrArg Prod.snd hs
  clear hs L2 L4 L8 l1 l2 l3 l4 hx HM HR
  rw [EntV]
  rcases hcase with ⟨hk, hm⟩ | ⟨hk1, hk0, hm⟩ | ⟨hk, hne, hm⟩ | ⟨hk, hne, hm⟩
  all_goals rw [hm]; clear hm
  all_goals
    go_enter Tryz.func61, Tryz.ntmps61
    go_wp2_with fail
    go_region_held3 (fun w' => w'.cell? ⟨w.heap.size, 0, none⟩ = some (.int .u64 (F : Int)) ∧ w'.cell? ⟨w.heap.size, 2, none⟩ = some (.bool b) ∧ w'.cell? ⟨w.heap.size, 3, none⟩ = some (.bool c) ∧ w'.cell? ⟨w.heap.size, 4, none⟩ = some (.bool d)) (go_keep) (first | (go_at_call 81; first | (refine (HB2.out _).mono ?_; rintro e w1 ⟨rfl, rfl⟩) | (refine (HB4.out _).mono ?_; rintro e w1 ⟨rfl, rfl⟩) | (refine (HB8.out _).mono ?_; rintro e w1 ⟨rfl, rfl⟩)))
    go_wp2_with fail
    refine (HE.out _).mono ?_
    rintro e w1 ⟨rfl, hb1⟩
    have HX : Hid (BoxE w1 w.heap.size (F, t, b, c, d)) := BoxE.below (w := (w.alloc (.cells #[.int .u64 (F : Int), .bool t, .bool b, .bool c, .bool d] 87)).drew) (BoxE.new w (F, t, b, c, d)) hb1
    have HB : Hid (Below w.heap.size w w1) := ((Below.refl _ _).alloc (Nat.le_refl _) _).drew.trans (hb1.mono (by simp))
    obtain ⟨x0, x1, x2, x3, x4⟩ := (HX.out.below ((Below.refl _ _).alloc (Nat.le_refl _) (Obj.cells #[.int .u64 (F' : Int), .bool t', .bool b', .bool c', .bool d'] 87))).cells
    clear hb1 HB2 HB4 HB8 HE
    simp only [EntV] at *
  · subst hk
    go_wp2_with fail
    go_ret2
    exact ⟨rfl, HB.out.alloc HB.out.size _⟩
  · go_wp2_with fail
    go_ret2
    exact ⟨rfl, HB.out.alloc HB.out.size _⟩
  · subst hk
    go_wp2_with (refine wpList_neq_ent rfl _ _ rfl (p := (F', t', b', c', d')) (q := (F, t, b, c, d)) rfl rfl hne ?_)
    go_ret2
    exact ⟨rfl, HB.out.alloc HB.out.size _⟩
  · subst hk
    go_wp2_with (refine wpList_neq_ent rfl _ _ rfl (p := (F', t', b', c', d')) (q := (F, t, b, c, d)) rfl rfl hne ?_)
    go_ret2
    exact ⟨rfl, HB.out.alloc HB.out.size _⟩
end Go.Proofs.YtlplbbnicfeoaaaGreat
/- Pages: the small functions (sums, units, numbers of entries). Own work. -/
namespace Go.Proofs.YtlplbbnicfeoaaaGreat
open Go.RowKit
set_option linter.unusedVariables false
def ren264 : Go.Shelf.Ren := ⟨fun | 264 => 57 | n => n, fun | 53 => 23 | 46 => 145 | n => n, fun | n => n⟩
theorem lays264 : Go.Proofs.Lays.n264 Tryz.prog ren264 := {
  mixed := by kernel_rfl
  f264 := Tryz.func57.trans (congrArg some (by kernel_rfl))
  t46 := Tryz.underlying145
  a46 := Tryz.isAgg145
  z46 := Tryz.sizeOf145
  v46 := Tryz.zeroValue145
  t53 := Tryz.underlying23
  a53 := Tryz.isAgg23
  z53 := Tryz.sizeOf23
  v53 := Tryz.zeroValue23 }
theorem mul64_any {x y : Nat} (hx : x ≤ 18446744073709551615) (hy : y ≤ 18446744073709551615) (w : World) :
    Calls Tryz.prog 57 #[.int .u64 (x : Int), .int .u64 (y : Int)] w fun e w' => e = .returned (.tuple #[.int .u64 ((x * y / 18446744073709551616 : Nat) : Int), .int .u64 ((x * y % 18446744073709551616 : Nat) : Int)]) ∧ w' = w :=
  Any.bits_Mul64 lays264 x y (by omega) (by omega) w
set_option maxRecDepth 100000 in
set_option maxHeartbeats 1000000 in
theorem to_any {x : Nat} (hx : x ≤ 18446744073709551615) (w : World) : Calls Tryz.prog 58 #[.int .u64 (x : Int)] w fun e w' => e = .returned (.tuple #[.int .u64 (x : Int), .bool true]) ∧ w' = w := by
  have HG : Hid (∀ W, Calls Tryz.prog 59 #[] W fun e w' => e = .returned (.int .u64 18446744073709551615) ∧ w' = W) := fun W => greatest_u64 W
  have j : (x : Int) ≤ 18446744073709551615 := by omega
  go_enter Tryz.func58, Tryz.ntmps58
  go_wp2_with (go_at_call 59; refine (HG.out _).mono ?_; rintro e w' ⟨rfl, hw⟩; have hw := hw.symm; subst hw)
  go_ret2
  exact ⟨rfl, rfl⟩
set_option maxRecDepth 100000 in
set_option maxHeartbeats 1000000 in
theorem mul_any {x y : Nat} (hx : x ≤ 18446744073709551615) (hy : y ≤ 18446744073709551615) (w : World) : Calls Tryz.prog 31 #[.int .u64 (x : Int), .int .u64 (y : Int)] w fun e w' => e = .returned (if x * y ≤ 18446744073709551615 then .tuple #[.int .u64 ((x * y : Nat) : Int), .bool true] else .tuple #[.int .u64 0, .bool false]) ∧ w' = w := by
  have HM := Lib.hid (mul64_any hx hy w)
  by_cases h : x * y ≤ 18446744073709551615
  · rw [if_pos h]
    have e1 : x * y / 18446744073709551616 = 0 := Nat.div_eq_of_lt (by omega)
    have e2 : x * y % 18446744073709551616 = x * y := Nat.mod_eq_of_lt (by omega)
    rw [e1, e2] at HM
    obtain ⟨P, hP⟩ : ∃ P, x * y = P := ⟨_, rfl⟩
    rw [hP] at HM h ⊢
    have HT := Lib.hid (to_any h w)
    clear e1 e2 hP
    go_enter Tryz.func31, Tryz.ntmps31
    go_wp2_with fail
    refine HM.out.mono ?_
    rintro e w' ⟨rfl, hw⟩
    subst hw
    go_wp2_with fail
    refine HT.out.mono ?_
    rintro e w2 ⟨rfl, hw⟩
    subst hw
    go_wp2_with fail
    go_ret2
    exact ⟨rfl, rfl⟩
  · rw [if_neg h]
    obtain ⟨D, hD⟩ : ∃ D, x * y / 18446744073709551616 = D := ⟨_, rfl⟩
    have hD0 : 0 < D := by rw [← hD]; exact Nat.div_pos (by omega) (by decide)
    rw [hD] at HM
    generalize x * y % 18446744073709551616 = R at HM
    have jD : (D : Int) ≠ 0 := by omega
    clear hD h
    go_enter Tryz.func31, Tryz.ntmps31
    go_wp2_with fail
    refine HM.out.mono ?_
    rintro e w' ⟨rfl, hw⟩
    subst hw
    go_wp2_with fail
    go_ret2
    exact ⟨rfl, rfl⟩
set_option maxRecDepth 100000 in
set_option maxHeartbeats 1000000 in
theorem add_any {x y : Nat} (hx : x ≤ 18446744073709551615) (hy : y ≤ 18446744073709551615) (w : World) : Calls Tryz.prog 32 #[.int .u64 (x : Int), .int .u64 (y : Int)] w fun e w' => e = .returned (if x + y ≤ 18446744073709551615 then .tuple #[.int .u64 ((x + y : Nat) : Int), .bool true] else .tuple #[.int .u64 0, .bool false]) ∧ w' = w := by
  have HG : Hid (∀ W, Calls Tryz.prog 59 #[] W fun e w' => e = .returned (.int .u64 18446744073709551615) ∧ w' = W) := fun W => greatest_u64 W
  have hs : IntKind.u64.wrap (18446744073709551615 - (x : Int)) = 18446744073709551615 - (x : Int) := by rw [IntKind.wrap_u64]; omega
  by_cases h : x + y ≤ 18446744073709551615
  · rw [if_pos h]
    have j : ¬ 18446744073709551615 - (x : Int) < (y : Int) := by omega
    have hw2 : IntKind.u64.wrap ((x : Int) + (y : Int)) = ((x + y : Nat) : Int) := by rw [IntKind.wrap_u64]; omega
    go_enter Tryz.func32, Tryz.ntmps32
    go_wp2_with (go_at_call 59; refine (HG.out _).mono ?_; rintro e w' ⟨rfl, hw⟩; have hw := hw.symm; subst hw)
    go_ret2
    exact ⟨rfl, rfl⟩
  · rw [if_neg h]
    have j : 18446744073709551615 - (x : Int) < (y : Int) := by omega
    go_enter Tryz.func32, Tryz.ntmps32
    go_wp2_with (go_at_call 59; refine (HG.out _).mono ?_; rintro e w' ⟨rfl, hw⟩; have hw := hw.symm; subst hw)
    go_ret2
    exact ⟨rfl, rfl⟩
/-- so many pages from an address on end at a bound, or ahead of it -/
def winB (a p bound : Nat) : Bool := decide (a + p * 4096 ≤ bound)
set_option maxRecDepth 100000 in
set_option maxHeartbeats 2000000 in
theorem pwithin_any {a p bound : Nat} (ha : a ≤ 18446744073709551615) (hp : p ≤ 9223372036854775807) (hb : bound ≤ 18446744073709551615) (w : World) : Calls Tryz.prog 13 #[.int .u64 (a : Int), .int .i64 (p : Int), .int .u64 (bound : Int)] w fun e w' => e = .returned (.bool (winB a p bound)) ∧ w' = w := by
  have hw : IntKind.u64.wrap (p : Int) = (p : Int) := by rw [IntKind.wrap_u64]; omega
  have HM := Lib.hid (mul_any (x := p) (y := 4096) (by omega) (by omega) w)
  by_cases h1 : p * 4096 ≤ 18446744073709551615
  · rw [if_pos h1] at HM
    have HA := Lib.hid (add_any ha h1 w)
    by_cases h2 : a + p * 4096 ≤ 18446744073709551615
    · rw [if_pos h2] at HA
      by_cases h3 : a + p * 4096 ≤ bound
      · have e : winB a p bound = true := decide_eq_true h3
        rw [e]
        clear e
        generalize p * 4096 = q at *
        have j3 : ((a + q : Nat) : Int) ≤ (bound : Int) := by omega
        go_enter Tryz.func13, Tryz.ntmps13
        go_wp2_with fail
        refine HM.out.mono ?_
        rintro e w' ⟨rfl, hw'⟩
        subst hw'
        go_wp2_with fail
        refine HA.out.mono ?_
        rintro e w2 ⟨rfl, hw'⟩
        subst hw'
        generalize a + q = s at *
        go_wp2_with fail
        go_ret
        exact ⟨rfl, rfl⟩
      · have e : winB a p bound = false := decide_eq_false h3
        rw [e]
        clear e
        generalize p * 4096 = q at *
        have j3 : ¬ ((a + q : Nat) : Int) ≤ (bound : Int) := by omega
        go_enter Tryz.func13, Tryz.ntmps13
        go_wp2_with fail
        refine HM.out.mono ?_
        rintro e w' ⟨rfl, hw'⟩
        subst hw'
        go_wp2_with fail
        refine HA.out.mono ?_
        rintro e w2 ⟨rfl, hw'⟩
        subst hw'
        generalize a + q = s at *
        go_wp2_with fail
        go_ret
        exact ⟨rfl, rfl⟩
    · rw [if_neg h2] at HA
      have e : winB a p bound = false := decide_eq_false (by omega)
      rw [e]
      clear e
      generalize p * 4096 = q at *
      go_enter Tryz.func13, Tryz.ntmps13
      go_wp2_with fail
      refine HM.out.mono ?_
      rintro e w' ⟨rfl, hw'⟩
      subst hw'
      go_wp2_with fail
      refine HA.out.mono ?_
      rintro e w2 ⟨rfl, hw'⟩
      subst hw'
      go_wp2_with fail
      go_ret
      exact ⟨rfl, rfl⟩
  · rw [if_neg h1] at HM
    have e : winB a p bound = false := decide_eq_false (by omega)
    have HA := Lib.hid (add_any ha (show 0 ≤ 18446744073709551615 by omega) w)
    rw [if_pos (by omega)] at HA
    rw [e]
    clear e h1
    go_enter Tryz.func13, Tryz.ntmps13
    go_wp2_with fail
    refine HM.out.mono ?_
    rintro e w' ⟨rfl, hw'⟩
    subst hw'
    go_wp2_with fail
    refine HA.out.mono ?_
    rintro e w2 ⟨rfl, hw'⟩
    subst hw'
    go_wp2_with fail
    go_ret
    exact ⟨rfl, rfl⟩
/-- a row -/
structure L6 where
  v : Nat
  p : Nat
  n : Int
  big : Bool
  wr : Bool
  ex : Bool
def V6 (x : L6) : Value := .agg #[.int .u64 (x.v : Int), .int .u64 (x.p : Int), .int .i64 x.n, .bool x.big, .bool x.wr, .bool x.ex]
def unitF (x : L6) : Nat := if x.big = true then 2097152 else 4096
set_option maxRecDepth 100000 in
set_option maxHeartbeats 1000000 in
theorem unit_any (x : L6) (w : World) : Calls Tryz.prog 36 #[V6 x] w fun e w' => e = .returned (.int .u64 (unitF x : Int)) ∧ Below w.heap.size w w' := by
  obtain ⟨v, p, n, big, wr, ex⟩ := x
  unfold V6 unitF
  cases big with
  | true =>
    go_enter Tryz.func36, Tryz.ntmps36
    go_wp2_with fail
    go_ret
    exact ⟨rfl, (Below.refl _ _).alloc (Nat.le_refl _) _⟩
  | false =>
    go_enter Tryz.func36, Tryz.ntmps36
    go_wp2_with fail
    go_ret
    exact ⟨rfl, (Below.refl _ _).alloc (Nat.le_refl _) _⟩
set_option maxRecDepth 100000 in
set_option maxHeartbeats 1000000 in
theorem size_any {x : L6} {m : Nat} (hm : x.n = (m : Int)) (hs : m * 4096 ≤ 18446744073709551615) (w : World) : Calls Tryz.prog 35 #[V6 x] w fun e w' => e = .returned (.int .u64 ((m * 4096 : Nat) : Int)) ∧ Below w.heap.size w w' := by
  obtain ⟨v, p, n, big, wr, ex⟩ := x
  simp only at hm
  subst hm
  unfold V6
  have h1 : IntKind.u64.wrap (m : Int) = (m : Int) := by rw [IntKind.wrap_u64]; omega
  have h2 : IntKind.u64.wrap ((m : Int) * 4096) = ((m * 4096 : Nat) : Int) := by rw [IntKind.wrap_u64]; omega
  go_enter Tryz.func35, Tryz.ntmps35
  go_wp2_with fail
  go_ret
  exact ⟨rfl, (Below.refl _ _).alloc (Nat.le_refl _) _⟩
set_option maxRecDepth 100000 in
set_option maxHeartbeats 1000000 in
theorem leafLevel_any (b : Bool) (w : World) : Calls Tryz.prog 34 #[.bool b] w fun e w' => e = .returned (.int .i64 (if b = true then 1 else 2)) ∧ w' = w := by
  cases b with
  | true =>
    go_enter Tryz.func34, Tryz.ntmps34
    go_wp2_with fail
    go_ret
    exact ⟨rfl, rfl⟩
  | false =>
    go_enter Tryz.func34, Tryz.ntmps34
    go_wp2_with fail
    go_ret
    exact ⟨rfl, rfl⟩
def thrF (v l : Nat) : Nat := v / 2 ^ (30 - 9 * l)
set_option maxRecDepth 100000 in
set_option maxHeartbeats 1000000 in
theorem through_any (v l : Nat) (hl : l ≤ 2) (w : World) : Calls Tryz.prog 56 #[.int .u64 (v : Int), .int .i64 (l : Int)] w fun e w' => e = .returned (.int .u64 (thrF v l : Int)) ∧ w' = w := by
  unfold thrF
  rcases (by omega : l = 0 ∨ l = 1 ∨ l = 2) with rfl | rfl | rfl
  all_goals
    go_enter Tryz.func56, Tryz.ntmps56
    go_wp2_with fail
    go_ret
    exact ⟨by simp, rfl⟩
set_option maxRecDepth 100000 in
set_option maxHeartbeats 1000000 in
theorem number_any (v l : Nat) (hl : l ≤ 2) (w : World) : Calls Tryz.prog 60 #[.int .u64 (v : Int), .int .i64 (l : Int)] w fun e w' => e = .returned (.int .u64 ((thrF v l % 512 : Nat) : Int)) ∧ w' = w := by
  have HT := Lib.hid (through_any v l hl w)
  generalize thrF v l = t at *
  have jd : (t : Int).tmod 512 = ((t % 512 : Nat) : Int) := rfl
  go_enter Tryz.func60, Tryz.ntmps60
  go_wp2_with fail
  refine HT.out.mono ?_
  rintro e w' ⟨rfl, hw⟩
  subst hw
  go_wp2_with fail
  go_ret
  exact ⟨rfl, rfl⟩
end Go.Proofs.YtlplbbnicfeoaaaGreat
/- Pages: a table (an array of 512 numbers) by value and in a block of its own (after the points of SpPts, SpMark, SpEq). Own work. -/
namespace Go.Proofs.YtlplbbnicfeoaaaGreat
open Go.RowKit Go.Shelf
/-- the points as the array's cells -/
def tabV (f : Nat → Nat) : Array Value := ((List.range 512).map fun i => Value.int .u64 (f i : Int)).toArray
theorem tabV_size (f : Nat → Nat) : (tabV f).size = 512 := by simp [tabV]
theorem tabV_get (f : Nat → Nat) {i : Nat} (h : i < 512) : (tabV f)[i]? = some (.int .u64 (f i : Int)) := by
  simp [tabV, h]
theorem tabV_ext {f g : Nat → Nat} (h : ∀ i, i < 512 → f i = g i) : tabV f = tabV g := by
  unfold tabV
  rw [List.map_congr_left fun i hi => by rw [h i (List.mem_range.1 hi)]]
theorem tabV_one (f : Nat → Nat) : (tabV f).all (·.oneCell') = true := by
  rw [Array.all_eq_true_iff_forall_mem]
  intro v hv
  simp only [tabV, List.mem_toArray, List.mem_map] at hv
  obtain ⟨i, _, rfl⟩ := hv
  rfl
def setT (f : Nat → Nat) (p : Nat) (v : Nat) : Nat → Nat := fun q => if q = p then v else f q
theorem tabV_set (f : Nat → Nat) {p : Nat} (h : p < 512) (v : Nat) : (tabV f).setIfInBounds p (.int .u64 (v : Int)) = tabV (setT f p v) := by
  apply Array.ext_getElem?
  intro i
  rw [Array.getElem?_setIfInBounds, tabV_size]
  by_cases e : p = i
  · subst e
    simp [h, tabV_get, setT]
  · rw [if_neg e]
    by_cases hi : i < 512
    · rw [tabV_get _ hi, tabV_get _ hi]
      simp [setT, show i ≠ p from fun a => e a.symm]
    · rw [Array.getElem?_eq_none (by rw [tabV_size]; omega), Array.getElem?_eq_none (by rw [tabV_size]; omega)]

/-- a block of points -/
def TabAt (w : World) (b : Nat) (f : Nat → Nat) : Prop := w.heap[b]? = some (.cells (tabV f) 55 (0, 0))
theorem TabAt.lt {w : World} {b : Nat} {f : Nat → Nat} (h : TabAt w b f) : b < w.heap.size := (Array.getElem?_eq_some_iff.1 h).1
theorem TabAt.cell {w : World} {b : Nat} {f : Nat → Nat} (h : TabAt w b f) {p : Nat} (hp : p < 512) : w.cell? ⟨b, p, none⟩ = some (.int .u64 (f p : Int)) := by
  rw [cell_of_row _ _ p _ _ _ h, tabV_get f hp]
theorem TabAt.free {w : World} {b : Nat} {f : Nat → Nat} (h : TabAt w b f) (p : Nat) : w.frozen? ⟨b, p, none⟩ = false := by
  unfold TabAt at h
  simp [World.frozen?, h]
theorem TabAt.alloc {w : World} {b : Nat} {f : Nat → Nat} (h : TabAt w b f) (o : Obj) : TabAt (w.alloc o) b f := (Below.heap_alloc w o b h.lt).trans h
theorem TabAt.new (w : World) (f : Nat → Nat) : TabAt (w.alloc (.cells (tabV f) 55)) w.heap.size f := heap_alloc_new w _
theorem TabAt.below {w w' : World} {b : Nat} {f : Nat → Nat} {B : Nat} (h : TabAt w b f) (hb : Below B w w') (hB : b < B) : TabAt w' b f := (hb.block b hB).trans h
theorem TabAt.other {w : World} {b c i : Nat} {f : Nat → Nat} {u : Value} (h : TabAt w b f) (hc : b ≠ c) : TabAt (w.setCell ⟨c, i, none⟩ u) b f := (Below.heap_setCell _ _ _ _ hc).trans h
theorem TabAt.set {w : World} {b : Nat} {f : Nat → Nat} (h : TabAt w b f) {p : Nat} (hp : p < 512) (v : Nat) : TabAt (w.setCell ⟨b, p, none⟩ (.int .u64 (v : Int))) b (setT f p v) := by
  unfold TabAt at h ⊢
  rw [← tabV_set f hp v]
  simp [World.setCell, Array.getElem?_modify, h]
theorem tab_zero : (∀ w, (zeroValue 55).run Tryz.prog w = .ok (.agg (tabV fun _ => 0)) w) ∧ (Tryz.prog.info? 55).map (·.size) = some 512 :=
  zero_of_info (by kernel_rfl)
theorem TabAt.load {w : World} {b : Nat} {f : Nat → Nat} (h : TabAt w b f) : (Instr.loadAt 55 (.pointer (some ⟨b, 0, none⟩))).run Tryz.prog w = .ok (.agg (tabV f)) w := by
  have hu : Tryz.prog.underlying 55 = some (.array 512 23) := by kernel_rfl
  have := run_loadAt_mid (P := Tryz.prog) w b 0 55 (tabV f).toList (.array 512 23) (fun j v hv => by
    have hj : j < 512 := by have := (List.getElem?_eq_some_iff.1 hv).1; rw [Array.length_toList, tabV_size] at this; exact this
    rw [Nat.zero_add, h.cell hj]
    rw [Array.getElem?_toList, tabV_get f hj] at hv
    exact hv) hu rfl (by rw [Array.length_toList, tabV_size]; exact tab_zero.2)
  simpa using this
theorem TabAt.ext {w : World} {b : Nat} {f g : Nat → Nat} (h : TabAt w b f) (e : ∀ i, i < 512 → f i = g i) : TabAt w b g := by
  unfold TabAt at h ⊢
  rw [← tabV_ext e]; exact h
/-- a row is written over -/
theorem below_setRow (w : World) (b : Nat) (c : Array Value) (n : Nat) (h : n ≤ b) : Below n w (w.setRow b c) := by
  refine ⟨rfl, rfl, rfl, by simp [World.setRow], fun k hk => ?_⟩
  simp only [World.setRow, Array.getElem?_modify]
  rw [if_neg (by omega)]
/-- A whole array into a block of points. -/
theorem TabAt.store {w : World} {b : Nat} {f : Nat → Nat} (h : TabAt w b f) (g : Nat → Nat) : (Instr.storeAt 55 (.pointer (some ⟨b, 0, none⟩)) (.agg (tabV g))).run Tryz.prog w = .ok () (w.setRow b (tabV g)) := by
  simp only [Instr.storeAt, Instr.sureAddr, Sem.run_bind, Sem.run_pure, Result.andThen]
  exact run_storeVar_row w b 55 55 (tabV f) (tabV g) h (by rw [tabV_size]; exact tab_zero.2) (by rw [tabV_size, tabV_size]) (tabV_one g)
theorem TabAt.setRow {w : World} {b : Nat} {f : Nat → Nat} (h : TabAt w b f) (g : Nat → Nat) : TabAt (w.setRow b (tabV g)) b g := by
  unfold TabAt at h ⊢
  simp [World.setRow, Array.getElem?_modify, h]
theorem TabAt.row_other {w : World} {b c : Nat} {f : Nat → Nat} (h : TabAt w b f) (hc : b ≠ c) (d : Array Value) : TabAt (w.setRow c d) b f := by
  unfold TabAt at h ⊢
  simp [World.setRow, Array.getElem?_modify, h, show ¬ c = b from fun e => hc e.symm]
theorem wp_load_tab {o : Oper} {a : Act} {w : World} {K : Act → World → Prop} {Q : Exit → Act → World → Prop} (x : Operand) (ho : o.op = .load 55 x) {b : Nat} {f : Nat → Nat} (hx : a.eval x = .pointer (some ⟨b, 0, none⟩)) (h : TabAt w b f) (hk : K (a.put o.dst (.agg (tabV f))) w) : o.wp Tryz.prog a w K Q := by
  unfold Oper.wp execOp
  simp only [ho, hx, Sem.run_bind, Sem.run_pure, Result.andThen_ok, h.load]
  exact hk
theorem wp_store_tab {o : Oper} {a : Act} {w : World} {K : Act → World → Prop} {Q : Exit → Act → World → Prop} (x y : Operand) (ho : o.op = .store 55 x y) {b : Nat} {f g : Nat → Nat} (hx : a.eval x = .pointer (some ⟨b, 0, none⟩)) (hy : a.eval y = .agg (tabV g)) (hd : o.dst = none) (h : TabAt w b f) (hk : K a (w.setRow b (tabV g))) : o.wp Tryz.prog a w K Q := by
  unfold Oper.wp execOp
  simp only [ho, hx, hy, Sem.run_bind, Sem.run_pure, Result.andThen_ok, h.store g]
  rw [Oper.upon_skip, hd]
  exact hk
theorem wpList_load_tab {ops : Array Oper} {rest : List Oper} {o : Oper} {a : Act} {w : World} {Q : Exit → Act → World → Prop} (hgd : o.guard = none) (x : Operand) (ho : o.op = .load 55 x) {b : Nat} {f : Nat → Nat} (hx : a.eval x = .pointer (some ⟨b, 0, none⟩)) (h : TabAt w b f) (hk : wpList Tryz.prog ops Q rest (a.put o.dst (.agg (tabV f))) w) : wpList Tryz.prog ops Q (o :: rest) a w :=
  wpList_plain hgd fun _ hK => wp_load_tab x ho hx h (hK _ _ hk)
theorem wpList_store_tab {ops : Array Oper} {rest : List Oper} {o : Oper} {a : Act} {w : World} {Q : Exit → Act → World → Prop} (hgd : o.guard = none) (x y : Operand) (ho : o.op = .store 55 x y) {b : Nat} {f g : Nat → Nat} (hx : a.eval x = .pointer (some ⟨b, 0, none⟩)) (hy : a.eval y = .agg (tabV g)) (hd : o.dst = none) (h : TabAt w b f) (hk : wpList Tryz.prog ops Q rest a (w.setRow b (tabV g))) : wpList Tryz.prog ops Q (o :: rest) a w :=
  wpList_plain hgd fun _ hK => wp_store_tab x y ho hx hy hd h (hK _ _ hk)
theorem results_cell_one {fn : Func} {p : Tmp} {ty : TypeId} (h : fn.results = #[.cell p ty]) (tmps : Array Value) (P : Program) (w : World) :
    (results fn tmps).run P w = ((asAddr (tmps.getD p undef)).run P w).andThen fun a w => (loadVar ty a).run P w := by
  simp only [results, h]
  simp [Sem.run_bind, Result.andThen]
theorem ret_tab {fn : Func} {p : Tmp} (h : fn.results = #[.cell p 55]) {tmps : Array Value} {w : World} {b : Nat} {g : Nat → Nat} (hp : tmps.getD p undef = .pointer (some ⟨b, 0, none⟩)) (hg : TabAt w b g) :
    (results fn tmps).run Tryz.prog w = .ok (.agg (tabV g)) w := by
  have hl := hg.load
  simp only [Instr.loadAt, Instr.sureAddr, Sem.run_bind, Sem.run_pure, Result.andThen] at hl
  rw [results_cell_one h, hp]
  simp [asAddr, Result.andThen, hl]
/-- a table is the same as itself -/
theorem tab_equal (f : Nat → Nat) (w : World) : (Op.equalIn 10000 55 (.agg (tabV f)) (.agg (tabV f))).run Tryz.prog w = .ok true w := by
  have hu : Tryz.prog.underlying 55 = some (.array 512 23) := by kernel_rfl
  have hb : Tryz.prog.underlying 23 = some (.int .u64) := by kernel_rfl
  have hs : (Tryz.prog.info? 23).isSome = true := by kernel_rfl
  obtain ⟨i, hi⟩ := Option.isSome_iff_exists.1 hs
  have hc : Tryz.prog.cellsOf 23 = 1 := by kernel_rfl
  rw [run_equalIn_array w 9999 (tabV f) (tabV f) hu hi, hc]
  have hl : ∀ j ∈ List.range 512, j < 512 := fun j hj => List.mem_range.1 hj
  generalize List.range 512 = l at hl ⊢
  induction l with
  | nil => simp [Op.eqItems]
  | cons j l ih =>
    have hj : j < 512 := hl j (by simp)
    have px : (part 23 (tabV f) (j * 1)).run Tryz.prog w = .ok (.int .u64 (f j : Int)) w := by
      have := tabV_get f hj
      simp [part, isAgg, run_underlying hb, this]
    simp only [Op.eqItems, Sem.run_bind, px, run_equalIn_int w 9998 23 .u64 .u64 _ _ hb, Result.andThen_ok, beq_self_eq_true]
    exact ih fun k hk => hl k (by simp [hk])
theorem tab_guard : Tryz.prog.eqGuardType Tryz.prog.depth 55 = false := by kernel_rfl
theorem tab_neq (f : Nat → Nat) (w : World) : (binOp .neq 55 (.agg (tabV f)) (.agg (tabV f))).run Tryz.prog w = .ok (.bool false) w := by
  rw [run_neq_struct, tab_equal]
  rfl
theorem wpList_wanted {ops : Array Oper} {rest : List Oper} {o : Oper} {a : Act} {w : World} {Q : Exit → Act → World → Prop} (hw : Region.wanted o (yielded ops a.tmps) = true) (h : o.wp Tryz.prog a w (wpList Tryz.prog ops Q rest) Q) : wpList Tryz.prog ops Q (o :: rest) a w := by
  unfold wpList
  rw [if_pos hw]
  exact .inl h
theorem wpList_neq_tab {ops : Array Oper} {rest : List Oper} {o : Oper} {a : Act} {w : World} {Q : Exit → Act → World → Prop} (hw : Region.wanted o (yielded ops a.tmps) = true) (x y : Operand) {t' : TypeId} (ho : o.op = .binOp .neq 55 x y t') {f : Nat → Nat} (hx : a.eval x = .agg (tabV f)) (hy : a.eval y = .agg (tabV f)) (hk : wpList Tryz.prog ops Q rest (a.put o.dst (.bool false)) w) : wpList Tryz.prog ops Q (o :: rest) a w := by
  refine wpList_wanted hw ?_
  have hg : (eqGuard .neq 55 x y (.agg (tabV f)) (.agg (tabV f))).run Tryz.prog w = .ok () w := run_eqGuard_agg w _ _ _ _ _ _ tab_guard
  unfold Oper.wp execOp
  simp only [ho, hx, hy, Sem.run_bind, Sem.run_pure, Result.andThen_ok, hg, tab_neq]
  exact hk
theorem wpList_load_tabG {ops : Array Oper} {rest : List Oper} {o : Oper} {a : Act} {w : World} {Q : Exit → Act → World → Prop} (hw : Region.wanted o (yielded ops a.tmps) = true) (x : Operand) (ho : o.op = .load 55 x) {b : Nat} {f : Nat → Nat} (hx : a.eval x = .pointer (some ⟨b, 0, none⟩)) (h : TabAt w b f) (hk : wpList Tryz.prog ops Q rest (a.put o.dst (.agg (tabV f))) w) : wpList Tryz.prog ops Q (o :: rest) a w :=
  wpList_wanted hw (wp_load_tab x ho hx h hk)
theorem tab_index (f : Nat → Nat) {k : Nat} (hk : k < 512) (w : World) : (Instr.index 55 (.agg (tabV f)) (.int .i64 (k : Int))).run Tryz.prog w = .ok (.int .u64 (f k : Int)) w := by
  have hu : Tryz.prog.underlying 55 = some (.array 512 23) := by kernel_rfl
  have hb : Tryz.prog.underlying 23 = some (.int .u64) := by kernel_rfl
  have hi : (Tryz.prog.info? 23).map (·.size) = some 1 := by kernel_rfl
  obtain ⟨i, hi1, hi2⟩ := Option.map_eq_some_iff.1 hi
  have := tabV_get f hk
  simp [Instr.index, run_underlying hu, asIntOf, sizeOf, typeInfo, hi1, hi2, part, isAgg, run_underlying hb, this, go_sem]
  omega
/-- the bytes of a table -/
def tbN (f : Nat → Nat) : Nat → List Nat
  | 0 => []
  | k + 1 => tbN f k ++ Pl.le 8 (f k)
theorem tbN_len (f : Nat → Nat) : ∀ k, (tbN f k).length = 8 * k
  | 0 => rfl
  | k + 1 => by
    simp only [tbN, List.length_append, Pl.le_length, tbN_len f k]
    omega
theorem tbN_small (f : Nat → Nat) : ∀ k, ∀ z ∈ tbN f k, z < 256
  | 0, z, h => by cases h
  | k + 1, z, h => by
    rcases List.mem_append.1 h with h | h
    · exact tbN_small f k z h
    · exact Pl.le_small 8 (f k) z h
/-- the table of bytes -/
def numT (zs : List Nat) : Nat → Nat := fun i => Pl.num 8 (zs.drop (8 * i))
end Go.Proofs.YtlplbbnicfeoaaaGreat
/- Pages: the builder (written by parts/gen_pgbld.py). Own work. -/
namespace Go.Proofs.YtlplbbnicfeoaaaGreat
open Go.RowKit
set_option linter.unusedVariables false
/-- the builder's block -/
def Bb (w : World) (B : Nat) (o0 o1 o2 r : Value) (at' : Nat) : Prop := w.heap[B]? = some (.cells #[o0, o1, o2, r, .int .u64 (at' : Int)] 82 (0, 0))
theorem Bb.lt {w : World} {B : Nat} {o0 o1 o2 r : Value} {a : Nat} (h : Bb w B o0 o1 o2 r a) : B < w.heap.size := (Array.getElem?_eq_some_iff.1 h).1
theorem Bb.cells {w : World} {B : Nat} {o0 o1 o2 r : Value} {a : Nat} (h : Bb w B o0 o1 o2 r a) : w.cell? ⟨B, 0, none⟩ = some o0 ∧ w.cell? ⟨B, 1, none⟩ = some o1 ∧ w.cell? ⟨B, 2, none⟩ = some o2 ∧ w.cell? ⟨B, 3, none⟩ = some r ∧ w.cell? ⟨B, 4, none⟩ = some (.int .u64 (a : Int)) := by
  have h' : w.heap[B]? = _ := h
  refine ⟨?_, ?_, ?_, ?_, ?_⟩ <;> simp [World.cell?, h']
theorem Bb.free {w : World} {B : Nat} {o0 o1 o2 r : Value} {a : Nat} (h : Bb w B o0 o1 o2 r a) (i : Nat) : w.frozen? ⟨B, i, none⟩ = false := by
  have h' : w.heap[B]? = _ := h
  simp [World.frozen?, h']
theorem Bb.keeps {S : Nat → Prop} {w w' : World} {B : Nat} {o0 o1 o2 r : Value} {a : Nat} (h : Bb w B o0 o1 o2 r a) (k : Keeps S w w') (hn : ¬ S B) : Bb w' B o0 o1 o2 r a := (k.block B h.lt hn).trans h
theorem Bb.below {w w' : World} {B : Nat} {o0 o1 o2 r : Value} {a : Nat} (h : Bb w B o0 o1 o2 r a) (hb : Below w.heap.size w w') : Bb w' B o0 o1 o2 r a := (hb.block B h.lt).trans h
/-- a window of the list -/
def win (G o : Nat) : Value := .slice (some ⟨G, o, none⟩) 1 1
theorem keeps3 (w : World) (B i j k : Nat) (a b c : Value) : Keeps (fun q => q = B) w (((w.drew.setCell ⟨B, i, none⟩ a).setCell ⟨B, j, none⟩ b).setCell ⟨B, k, none⟩ c) :=
  ((((Keeps.refl _ w).drew.trans (Keeps.setCell _ B i a) (fun _ _ e => e)).trans (Keeps.setCell _ B j b) (fun _ _ e => e)).trans (Keeps.setCell _ B k c) (fun _ _ e => e))
set_option maxRecDepth 100000 in
set_option maxHeartbeats 4000000 in
theorem begin0 {w : World} {B G o m a : Nat} {o0 o1 o2 : Value} (h : Bb w B o0 o1 o2 (.slice (some ⟨G, o, none⟩) (m + 1) (m + 1)) a) (hm : m + 1 ≤ 1024) (ha : a + 4096 ≤ 18446744073709551615) : Calls Tryz.prog 33 #[.pointer (some ⟨B, 0, none⟩), .int .i64 0] w fun e w' => e = .returned (.int .u64 (a : Int)) ∧ ∃ r, Bb w' B (win G o) o1 o2 r (a + 4096) ∧ (m ≠ 0 → r = .slice (some ⟨G, o + 512, none⟩) m m) ∧ Keeps (fun k => k = B) w w' := by
  obtain ⟨c0, c1, c2, c3, c4⟩ := h.cells
  have f0 := h.free 0
  have f1 := h.free 1
  have f2 := h.free 2
  have f3 := h.free 3
  have f4 := h.free 4
  have hw : IntKind.u64.wrap ((a : Int) + 4096) = ((a + 4096 : Nat) : Int) := by rw [IntKind.wrap_u64]; omega
  have HB := Lib.hid h
  clear h
  by_cases h0 : m = 0
  · subst h0
    go_enter Tryz.func33, Tryz.ntmps33
    go_wp2_with fail
    go_region
    all_goals
      go_wp2_with fail
      go_ret
      refine ⟨rfl, .slice (some ⟨G, o, none⟩) 0 0, ?_, (fun e => absurd rfl e), keeps3 w B 0 3 4 _ _ _⟩
      have h' : w.heap[B]? = _ := HB.out
      unfold Bb win
      simp [World.setCell, World.drew, Array.getElem?_modify, h']
  · obtain ⟨q, rfl⟩ : ∃ q, m = q + 1 := ⟨m - 1, by omega⟩
    have j1 : (1 : Int) < ((q + 1 + 1 : Nat) : Int) := by omega
    clear h0
    go_enter Tryz.func33, Tryz.ntmps33
    go_wp2_with fail
    go_region
    all_goals
      go_wp2_with fail
      go_ret
      refine ⟨rfl, _, ?_, (fun _ => rfl), keeps3 w B 0 3 4 _ _ _⟩
      have h' : w.heap[B]? = _ := HB.out
      unfold Bb win
      simp [World.setCell, World.drew, Array.getElem?_modify, h']
set_option maxRecDepth 100000 in
set_option maxHeartbeats 4000000 in
theorem begin1 {w : World} {B G o m a : Nat} {o0 o1 o2 : Value} (h : Bb w B o0 o1 o2 (.slice (some ⟨G, o, none⟩) (m + 1) (m + 1)) a) (hm : m + 1 ≤ 1024) (ha : a + 4096 ≤ 18446744073709551615) : Calls Tryz.prog 33 #[.pointer (some ⟨B, 0, none⟩), .int .i64 1] w fun e w' => e = .returned (.int .u64 (a : Int)) ∧ ∃ r, Bb w' B o0 (win G o) o2 r (a + 4096) ∧ (m ≠ 0 → r = .slice (some ⟨G, o + 512, none⟩) m m) ∧ Keeps (fun k => k = B) w w' := by
  obtain ⟨c0, c1, c2, c3, c4⟩ := h.cells
  have f0 := h.free 0
  have f1 := h.free 1
  have f2 := h.free 2
  have f3 := h.free 3
  have f4 := h.free 4
  have hw : IntKind.u64.wrap ((a : Int) + 4096) = ((a + 4096 : Nat) : Int) := by rw [IntKind.wrap_u64]; omega
  have HB := Lib.hid h
  clear h
  by_cases h0 : m = 0
  · subst h0
    go_enter Tryz.func33, Tryz.ntmps33
    go_wp2_with fail
    go_region
    all_goals
      go_wp2_with fail
      go_ret
      refine ⟨rfl, .slice (some ⟨G, o, none⟩) 0 0, ?_, (fun e => absurd rfl e), keeps3 w B 1 3 4 _ _ _⟩
      have h' : w.heap[B]? = _ := HB.out
      unfold Bb win
      simp [World.setCell, World.drew, Array.getElem?_modify, h']
  · obtain ⟨q, rfl⟩ : ∃ q, m = q + 1 := ⟨m - 1, by omega⟩
    have j1 : (1 : Int) < ((q + 1 + 1 : Nat) : Int) := by omega
    clear h0
    go_enter Tryz.func33, Tryz.ntmps33
    go_wp2_with fail
    go_region
    all_goals
      go_wp2_with fail
      go_ret
      refine ⟨rfl, _, ?_, (fun _ => rfl), keeps3 w B 1 3 4 _ _ _⟩
      have h' : w.heap[B]? = _ := HB.out
      unfold Bb win
      simp [World.setCell, World.drew, Array.getElem?_modify, h']
set_option maxRecDepth 100000 in
set_option maxHeartbeats 4000000 in
theorem begin2 {w : World} {B G o m a : Nat} {o0 o1 o2 : Value} (h : Bb w B o0 o1 o2 (.slice (some ⟨G, o, none⟩) (m + 1) (m + 1)) a) (hm : m + 1 ≤ 1024) (ha : a + 4096 ≤ 18446744073709551615) : Calls Tryz.prog 33 #[.pointer (some ⟨B, 0, none⟩), .int .i64 2] w fun e w' => e = .returned (.int .u64 (a : Int)) ∧ ∃ r, Bb w' B o0 o1 (win G o) r (a + 4096) ∧ (m ≠ 0 → r = .slice (some ⟨G, o + 512, none⟩) m m) ∧ Keeps (fun k => k = B) w w' := by
  obtain ⟨c0, c1, c2, c3, c4⟩ := h.cells
  have f0 := h.free 0
  have f1 := h.free 1
  have f2 := h.free 2
  have f3 := h.free 3
  have f4 := h.free 4
  have hw : IntKind.u64.wrap ((a : Int) + 4096) = ((a + 4096 : Nat) : Int) := by rw [IntKind.wrap_u64]; omega
  have HB := Lib.hid h
  clear h
  by_cases h0 : m = 0
  · subst h0
    go_enter Tryz.func33, Tryz.ntmps33
    go_wp2_with fail
    go_region
    all_goals
      go_wp2_with fail
      go_ret
      refine ⟨rfl, .slice (some ⟨G, o, none⟩) 0 0, ?_, (fun e => absurd rfl e), keeps3 w B 2 3 4 _ _ _⟩
      have h' : w.heap[B]? = _ := HB.out
      unfold Bb win
      simp [World.setCell, World.drew, Array.getElem?_modify, h']
  · obtain ⟨q, rfl⟩ : ∃ q, m = q + 1 := ⟨m - 1, by omega⟩
    have j1 : (1 : Int) < ((q + 1 + 1 : Nat) : Int) := by omega
    clear h0
    go_enter Tryz.func33, Tryz.ntmps33
    go_wp2_with fail
    go_region
    all_goals
      go_wp2_with fail
      go_ret
      refine ⟨rfl, _, ?_, (fun _ => rfl), keeps3 w B 2 3 4 _ _ _⟩
      have h' : w.heap[B]? = _ := HB.out
      unfold Bb win
      simp [World.setCell, World.drew, Array.getElem?_modify, h']
end Go.Proofs.YtlplbbnicfeoaaaGreat
