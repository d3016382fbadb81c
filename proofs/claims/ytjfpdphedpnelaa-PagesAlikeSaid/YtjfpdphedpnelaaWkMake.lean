/- walk's Make, and the document's Entry and Make. Own work. -/
import Derived.Test.YtjfpdphedpnelaaWkEnt
import Derived.Laws.StructEq
import Derived.Deep.RegionHeld3
namespace Go.Proofs.Ytjfpdphedpnelaa
open Go.RowKit Wk
theorem same_ent (w : World) (x y : Ent) : (Op.equalIn 10000 74 (EntV x) (EntV y)).run Try.prog w = .ok (x == y) w := by
  obtain ⟨a, b, c, d, e⟩ := x
  obtain ⟨a', b', c', d', e'⟩ := y
  have u1 := Try.underlying4
  have a1 := Try.isAgg4
  have z1 := Try.sizeOf4
  have u := Try.underlying23
  have a2 := Try.isAgg23
  have z := Try.sizeOf23
  have hS : Try.prog.underlying 74 = some (.struct (Try.prog.fieldsOf 74)) := by kernel_rfl
  have hp : Try.prog.stoodInHeld 74 = false := by kernel_rfl
  have he : (((a, b, c, d, e) : Ent) == (a', b', c', d', e')) = ((a == a') && ((b == b') && ((c == c') && ((d == d') && (e == e'))))) := rfl
  rw [he, EntV, EntV, show (10000 : Nat) = 9999 + 1 from rfl, run_equalIn_agg w 9999 74 _ _ hS hp]
  simp only [Program.fieldsOf, Try.underlying74]
  go_simp
  by_cases h1 : a = a'
  · subst h1
    cases b <;> cases b' <;> cases c <;> cases c' <;> cases d <;> cases d' <;> cases e <;> cases e' <;> simp
  · have : (a == a') = false := by simpa using h1
    have h2 : ¬ (a : Int) = (a' : Int) := by omega
    rw [this]
    simp [h2]
theorem eql_ent (w : World) (x y : Ent) : (binOp .eql 74 (EntV x) (EntV y)).run Try.prog w = .ok (.bool (x == y)) w := by
  have := same_ent w x y
  rw [EntV, EntV] at *
  rw [run_eql_struct, this]
  rfl
theorem neq_ent (w : World) (x y : Ent) : (binOp .neq 74 (EntV x) (EntV y)).run Try.prog w = .ok (.bool (x != y)) w := by
  have := same_ent w x y
  rw [EntV, EntV] at *
  rw [run_neq_struct, this]
  rfl
theorem guard_ent : Try.prog.eqGuardType Try.prog.depth 74 = false := by kernel_rfl
theorem wpList_eql_ent {w : World} {ops : Array Oper} {rest : List Oper} {o : Oper} {a : Act} {Q : Exit → Act → World → Prop} (hw : Region.wanted o (yielded ops a.tmps) = true) (x y : Operand) {t' : TypeId} (ho : o.op = .binOp .eql 74 x y t') {p q : Ent} {b : Bool} (hx : a.eval x = EntV p) (hy : a.eval y = EntV q) (hb : (p == q) = b)
    (hK : wpList Try.prog ops Q rest (a.put o.dst (.bool b)) w) : wpList Try.prog ops Q (o :: rest) a w := by
  refine wpList_step fun K' hK' => ?_
  rw [if_pos hw]
  unfold Oper.wp execOp
  have hg : (eqGuard .eql 74 x y (EntV p) (EntV q)).run Try.prog w = .ok () w := run_eqGuard_agg w _ _ _ _ _ _ guard_ent
  simp only [ho, hx, hy, Sem.run_bind, Sem.run_pure, Result.andThen_ok, hg, eql_ent, hb]
  exact hK' _ _ hK
theorem wpList_neq_ent {w : World} {ops : Array Oper} {rest : List Oper} {o : Oper} {a : Act} {Q : Exit → Act → World → Prop} (hw : Region.wanted o (yielded ops a.tmps) = true) (x y : Operand) {t' : TypeId} (ho : o.op = .binOp .neq 74 x y t') {p q : Ent} {b : Bool} (hx : a.eval x = EntV p) (hy : a.eval y = EntV q) (hb : (p != q) = b)
    (hK : wpList Try.prog ops Q rest (a.put o.dst (.bool b)) w) : wpList Try.prog ops Q (o :: rest) a w := by
  refine wpList_step fun K' hK' => ?_
  rw [if_pos hw]
  unfold Oper.wp execOp
  have hg : (eqGuard .neq 74 x y (EntV p) (EntV q)).run Try.prog w = .ok () w := run_eqGuard_agg w _ _ _ _ _ _ guard_ent
  simp only [ho, hx, hy, Sem.run_bind, Sem.run_pure, Result.andThen_ok, hg, neq_ent, hb]
  exact hK' _ _ hK
theorem or_lt {a b : Nat} (ha : a < 18446744073709551616) (hb : b < 18446744073709551616) : a ||| b < 18446744073709551616 := Nat.or_lt_two_pow (n := 64) ha hb
theorem nbit_lt (b : Bool) {n : Nat} (h : n < 18446744073709551616) : nbit b n < 18446744073709551616 := by
  cases b
  · exact (by decide : 0 < 18446744073709551616)
  · exact h
def MakePost (w : World) (r : Nat × Int) (x : Ending) (w' : World) : Prop := x = .returned (.tuple #[.int .u64 (r.1 : Int), .int .i64 r.2]) ∧ Below w.heap.size w w'
set_option maxRecDepth 100000 in
set_option maxHeartbeats 4000000 in
theorem make_any {x : Ent} (hx : x.1 < 18446744073709551616) (l : Int) (w : World) :
    Calls Try.prog 57 #[EntV x, .int .i64 l] w (MakePost w (makeB x l)) := by
  obtain ⟨F, t, b, c, d⟩ := x
  have hF : F < 18446744073709551616 := hx
  have L2 := nbit_lt c (n := 2) (by decide)
  have L4 := nbit_lt d (n := 4) (by decide)
  have L8 := nbit_lt b (n := 8) (by decide)
  have HB2 : Hid (∀ W, Calls Try.prog 58 #[.bool c, .int .u64 2] W fun x w' => x = .returned (.int .u64 ((nbit c 2 : Nat) : Int)) ∧ w' = W) := bit_any c 2
  have HB4 : Hid (∀ W, Calls Try.prog 58 #[.bool d, .int .u64 4] W fun x w' => x = .returned (.int .u64 ((nbit d 4 : Nat) : Int)) ∧ w' = W) := bit_any d 4
  have HB8 : Hid (∀ W, Calls Try.prog 58 #[.bool b, .int .u64 8] W fun x w' => x = .returned (.int .u64 ((nbit b 8 : Nat) : Int)) ∧ w' = W) := bit_any b 8
  have o1 : bits .or .u64 1 (F : Int) = ((1 ||| F : Nat) : Int) := u64_or_nat 1 F (by decide) hF
  have l1 := or_lt (a := 1) (by decide) hF
  have o2 := u64_or_nat _ _ l1 L2
  have l2 := or_lt l1 L2
  have o3 := u64_or_nat _ _ l2 L4
  have l3 := or_lt l2 L4
  have o4 := u64_or_nat _ _ l3 L8
  have l4 := or_lt l3 L8
  have HR : Hid (rawE (F, t, b, c, d) = 1 ||| F ||| nbit c 2 ||| nbit d 4 ||| nbit b 8) := rfl
  have HM : Hid (makeB (F, t, b, c, d) l = if l < 0 ∨ 2 < l then (0, 1) else if entB (rawE (F, t, b, c, d)) l = ((F, t, b, c, d), 0) then (rawE (F, t, b, c, d), 0) else (0, 42)) := rfl
  generalize 1 ||| F ||| nbit c 2 ||| nbit d 4 ||| nbit b 8 = R at *
  generalize 1 ||| F ||| nbit c 2 ||| nbit d 4 = R3 at *
  generalize 1 ||| F ||| nbit c 2 = R2 at *
  generalize 1 ||| F = R1 at *
  generalize nbit c 2 = n2 at *
  generalize nbit d 4 = n4 at *
  generalize nbit b 8 = n8 at *
  obtain ⟨F', t', b', c', d', k, hs⟩ : ∃ F' t' b' c' d' k, entB R l = ((F', t', b', c', d'), k) := ⟨_, _, _, _, _, _, rfl⟩
  have HE : Hid (∀ W, Calls Try.prog 36 #[.int .u64 (R : Int), .int .i64 l] W (EntPost W ((F', t', b', c', d'), k))) := fun W => hs ▸ entry_any l4 l W
  have hcase : (k = 1 ∧ makeB (F, t, b, c, d) l = (0, 1)) ∨ (k ≠ 1 ∧ k ≠ 0 ∧ makeB (F, t, b, c, d) l = (0, 42)) ∨ (k = 0 ∧ ((F', t', b', c', d') != (F, t, b, c, d)) = true ∧ makeB (F, t, b, c, d) l = (0, 42)) ∨ (k = 0 ∧ ((F', t', b', c', d') != (F, t, b, c, d)) = false ∧ makeB (F, t, b, c, d) l = (R, 0)) := by
    rw [HM.out, HR.out, hs]
    by_cases hl : l < 0 ∨ 2 < l
    · rw [if_pos hl]
      rw [entB, if_pos hl] at hs
      exact .inl ⟨(congrArg Prod.snd hs).symm, rfl⟩
    · rw [if_neg hl]
      by_cases k0 : k = 0
      · subst k0
        by_cases he : ((F', t', b', c', d') : Ent) = (F, t, b, c, d)
        · rw [he, if_pos rfl]
          exact .inr (.inr (.inr ⟨rfl, by simp, rfl⟩))
        · rw [if_neg (fun h => he (congrArg Prod.fst h))]
          exact .inr (.inr (.inl ⟨rfl, bne_iff_ne.2 he, rfl⟩))
      · rw [if_neg (fun h => k0 (congrArg Prod.snd h))]
        refine .inr (.inl ⟨fun h => ?_, k0, rfl⟩)
        subst h
        rw [entB, if_neg hl] at hs
        split at hs
        · cases congrArg Prod.snd hs
        · split at hs
          · cases congrArg Prod.snd hs
          · cases congrArg Prod.snd hs
  clear hs L2 L4 L8 l1 l2 l3 l4 hx HM HR
  rw [EntV]
  rcases hcase with ⟨hk, hm⟩ | ⟨hk1, hk0, hm⟩ | ⟨hk, hne, hm⟩ | ⟨hk, hne, hm⟩
  all_goals rw [hm]; clear hm
  all_goals
    go_enter Try.func57, Try.ntmps57
    go_wp2_with fail
    go_region_held3 (fun w' => w'.cell? ⟨w.heap.size, 0, none⟩ = some (.int .u64 (F : Int)) ∧ w'.cell? ⟨w.heap.size, 2, none⟩ = some (.bool b) ∧ w'.cell? ⟨w.heap.size, 3, none⟩ = some (.bool c) ∧ w'.cell? ⟨w.heap.size, 4, none⟩ = some (.bool d)) (go_keep) (first | (go_at_call 58; first | (refine (HB2.out _).mono ?_; rintro e w1 ⟨rfl, rfl⟩) | (refine (HB4.out _).mono ?_; rintro e w1 ⟨rfl, rfl⟩) | (refine (HB8.out _).mono ?_; rintro e w1 ⟨rfl, rfl⟩)))
    go_wp2_with fail
    refine (HE.out _).mono ?_
    rintro e w1 ⟨rfl, hb1⟩
    have HX : Hid (BoxE w1 w.heap.size (F, t, b, c, d)) := BoxE.below (w := (w.alloc (.cells #[.int .u64 (F : Int), .bool t, .bool b, .bool c, .bool d] 74)).drew) (BoxE.new w (F, t, b, c, d)) hb1
    have HB : Hid (Below w.heap.size w w1) := ((Below.refl _ _).alloc (Nat.le_refl _) _).drew.trans (hb1.mono (by simp))
    obtain ⟨x0, x1, x2, x3, x4⟩ := (HX.out.below ((Below.refl _ _).alloc (Nat.le_refl _) (Obj.cells #[.int .u64 (F' : Int), .bool t', .bool b', .bool c', .bool d'] 74))).cells
    clear hb1 HB2 HB4 HB8 HE
    simp only [EntV] at *
  · subst hk
    go_wp2_with fail
    go_ret2
    exact ⟨rfl, HB.out.alloc HB.out.size _⟩
  · go_wp2_with fail
    go_ret2
    exact ⟨rfl, HB.out.alloc HB.out.size _⟩
  · subst hk
    go_wp2_with (refine wpList_neq_ent rfl _ _ rfl (p := (F', t', b', c', d')) (q := (F, t, b, c, d)) rfl rfl hne ?_)
    go_ret2
    exact ⟨rfl, HB.out.alloc HB.out.size _⟩
  · subst hk
    go_wp2_with (refine wpList_neq_ent rfl _ _ rfl (p := (F', t', b', c', d')) (q := (F, t, b, c, d)) rfl rfl hne ?_)
    go_ret2
    exact ⟨rfl, HB.out.alloc HB.out.size _⟩
end Go.Proofs.Ytjfpdphedpnelaa
