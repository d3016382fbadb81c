import Derived.Test.YtddgoncbdlhhhaaGreatR19
import Derived.Test.YtddgoncbdlhhhaaGreatR16
import Derived.Test.YtddgoncbdlhhhaaGreatR30
import Derived.Laws.StructEq
import Derived.Test.YtddgoncbdlhhhaaGreatR38
import Derived.Test.YtddgoncbdlhhhaaGreatR31
import Derived.Test.YtddgoncbdlhhhaaGreatR24
/- BusNames. Own work. -/
namespace Go.Proofs.YtddgoncbdlhhhaaGreat
open Go.RowKit Go.Maps Go.Proofs.YtddgoncbdlhhhaaGreat.Sp
def rsN : List Sp := [(4096, 8192)]
def dsN : List Sp := [(12288, 4096)]
theorem on_n (p : Int) : On (rsN ++ dsN) p ↔ 4096 ≤ p ∧ p < 16384 := by
  unfold On rsN dsN
  constructor
  · rintro ⟨r, hr, h1, h2⟩
    simp at hr
    rcases hr with rfl | rfl <;> simp only at h1 h2 <;> omega
  · intro h
    by_cases h1 : p < 12288
    · exact ⟨(4096, 8192), by simp, by simp only; omega⟩
    · exact ⟨(12288, 4096), by simp, by simp only; omega⟩
theorem off_yes {a n : Nat} {x : Int} {b : Bool} (h : OffR (rsN ++ dsN) a n x b) (ha : 4096 ≤ a) (hn : a + n ≤ 16384) : b = false := by
  cases b with
  | false => rfl
  | true =>
    obtain ⟨i, h1, _, _, h4, _⟩ := h.1 rfl
    exact absurd ((on_n _).2 ⟨by omega, by omega⟩) h4
theorem off_no {x : Int} {b : Bool} (h : OffR (rsN ++ dsN) 16380 8 x b) : b = true ∧ x = 16384 := by
  cases b with
  | false =>
    have := (on_n _).1 ((h.2 rfl).2 4 (by omega))
    omega
  | true =>
    obtain ⟨i, h1, h2, _, h4, h5⟩ := h.1 rfl
    rw [on_n] at h4
    refine ⟨rfl, ?_⟩
    by_cases hi : 4 < i
    · have := (on_n _).1 (h5 4 hi)
      omega
    · omega
def M1 : Nat → Nat := putAt (fun _ => 0) 12284 ((Pl.le 8 18446744073709551615).take 8)
theorem le_ff : Pl.le 8 18446744073709551615 = [255, 255, 255, 255, 255, 255, 255, 255] := by decide
theorem num_n : Pl.num 8 (rdTo M1 12287 8 2) = 65535 := by
  have h1 : M1 (12287 + 0) = 255 := by
    unfold M1
    rw [le_ff, show (12287 : Nat) + 0 = 12284 + 3 from rfl, putAt_in _ _ _ _ (by decide)]
    rfl
  have h2 : M1 (12287 + 1) = 255 := by
    unfold M1
    rw [le_ff, show (12287 : Nat) + 1 = 12284 + 4 from rfl, putAt_in _ _ _ _ (by decide)]
    rfl
  have h3 : rdTo M1 12287 8 2 = [255, 255, 0, 0, 0, 0, 0, 0] := by
    rw [rdTo, bytesAt, show List.range 2 = [0, 1] from rfl, List.map_cons, List.map_cons, List.map_nil, h1, h2]
    rfl
  rw [h3]
  decide
theorem cnt_n : cnt M1 = 2 := by
  unfold M1
  rw [le_ff]
  rw [show ([255, 255, 255, 255, 255, 255, 255, 255] : List Nat).take 8 = [255, 255, 255, 255] ++ [255, 255, 255, 255] from rfl, ← putAt_append]
  rw [show (12284 : Nat) + ([255, 255, 255, 255] : List Nat).length = 3 * 4096 + 0 from rfl, show (12284 : Nat) = 2 * 4096 + 4092 from rfl]
  generalize hA : ([255, 255, 255, 255] : List Nat) = A
  have hl : A.length = 4 := by rw [← hA]; rfl
  have hz : allZ A = false := by rw [← hA]; rfl
  have h1 := cnt_one (M := fun _ => 0) (M' := putAt (fun _ => 0) (2 * 4096 + 4092) A) (k := 2) (by unfold pagesN; omega) (fun j hj => by unfold nz; rw [page_put_other _ (by omega) hj])
  rw [nz_false.2 (fun _ _ => rfl), nz_true (not_isZ_put (by omega) hz), cnt_zero] at h1
  have h2 := cnt_one (M := putAt (fun _ => 0) (2 * 4096 + 4092) A) (M' := putAt (putAt (fun _ => 0) (2 * 4096 + 4092) A) (3 * 4096 + 0) A) (k := 3) (by unfold pagesN; omega) (fun j hj => by unfold nz; rw [page_put_other _ (by omega) hj])
  rw [nz_false.2 (fun i hi => put_other (fun _ => 0) (k := 2) (k' := 3) (o := 4092) (zs := A) (by omega) (by omega) i hi), nz_true (not_isZ_put (by omega) hz)] at h2
  rw [if_neg (by decide), if_pos rfl] at h1 h2
  rw [Nat.add_zero] at h1 h2
  rw [h2, h1]
theorem stake_n1 : stakeW 18446744073709551615 [] rsN = 0 := by decide
theorem stake_n2 : stakeW 1048576 rsN dsN = 0 := by decide
theorem size_n (G : List Sp) (h : Ground G rsN) : tot G ≤ 67108864 := by
  have : G = [(4096, 12287)] := canon_ext h.1 ⟨fun x hx => by simp at hx; subst hx; simp, by simp⟩ (fun p => by
    rw [h.2.1 p, in_one]
    unfold On rsN
    constructor
    · rintro ⟨r, hr, h1, h2⟩
      simp at hr
      subst hr
      simp only at h1 h2 ⊢
      omega
    · intro h
      exact ⟨(4096, 8192), by simp, by simp only at h ⊢; omega⟩)
  rw [this]
  decide
theorem where_n : whereV rsN dsN 12290 = .tuple #[.agg #[.int .i64 2, .int .i64 0, .int .u64 2], .bool true] := by
  simp [whereV, spotFrom, spotV, rsN, dsN]
end Go.Proofs.YtddgoncbdlhhhaaGreat
/- BusNames: the walk. Own work. -/
namespace Go.Proofs.YtddgoncbdlhhhaaGreat
open Go.RowKit Go.Maps Go.Proofs.YtddgoncbdlhhhaaGreat.Sp
theorem eql_fault (w : World) (a b c d : Int) : (binOp .eql 71 (.agg #[.int .i64 a, .int .u64 b]) (.agg #[.int .i64 c, .int .u64 d])).run Tryz.prog w = .ok (.bool ((a == c) && (b == d))) w := by
  have u1 := Tryz.underlying61
  have a1 := Tryz.isAgg61
  have z1 := Tryz.sizeOf61
  have u := Tryz.underlying26
  have a2 := Tryz.isAgg26
  have z := Tryz.sizeOf26
  have hS : Tryz.prog.underlying 71 = some (.struct (Tryz.prog.fieldsOf 71)) := by kernel_rfl
  have hp : Tryz.prog.stoodInHeld 71 = false := by kernel_rfl
  rw [run_eql_struct, show (10000 : Nat) = 9999 + 1 from rfl, run_equalIn_agg w 9999 71 _ _ hS hp]
  simp only [Program.fieldsOf, Tryz.underlying71]
  go_simp
  by_cases h1 : a = c <;> by_cases h2 : b = d <;> simp [h1, h2]
theorem eql_spot (w : World) (a b e c d f : Int) : (binOp .eql 131 (.agg #[.int .i64 a, .int .i64 b, .int .u64 e]) (.agg #[.int .i64 c, .int .i64 d, .int .u64 f])).run Tryz.prog w = .ok (.bool ((a == c) && (b == d) && (e == f))) w := by
  have u1 := Tryz.underlying3
  have a1 := Tryz.isAgg3
  have z1 := Tryz.sizeOf3
  have u := Tryz.underlying26
  have a2 := Tryz.isAgg26
  have z := Tryz.sizeOf26
  have hS : Tryz.prog.underlying 131 = some (.struct (Tryz.prog.fieldsOf 131)) := by kernel_rfl
  have hp : Tryz.prog.stoodInHeld 131 = false := by kernel_rfl
  rw [run_eql_struct, show (10000 : Nat) = 9999 + 1 from rfl, run_equalIn_agg w 9999 131 _ _ hS hp]
  simp only [Program.fieldsOf, Tryz.underlying131]
  go_simp
  by_cases h1 : a = c <;> by_cases h2 : b = d <;> by_cases h3 : e = f <;> simp [h1, h2, h3]
theorem guard_fault : Tryz.prog.eqGuardType Tryz.prog.depth 71 = false := by kernel_rfl
theorem guard_spot : Tryz.prog.eqGuardType Tryz.prog.depth 131 = false := by kernel_rfl
theorem wpList_eql_fault {w : World} {ops : Array Oper} {rest : List Oper} {o : Oper} {a : Act} {Q : Exit → Act → World → Prop} (hw : Region.wanted o (yielded ops a.tmps) = true) (x y : Operand) {t' : TypeId} (ho : o.op = .binOp .eql 71 x y t') {p q p' q' : Int} {b : Bool} (hx : a.eval x = .agg #[.int .i64 p, .int .u64 q]) (hy : a.eval y = .agg #[.int .i64 p', .int .u64 q']) (hb : ((p == p') && (q == q')) = b)
    (hK : wpList Tryz.prog ops Q rest (a.put o.dst (.bool b)) w) : wpList Tryz.prog ops Q (o :: rest) a w := by
  refine wpList_step fun K' hK' => ?_
  rw [if_pos hw]
  unfold Oper.wp execOp
  simp only [ho, hx, hy, Sem.run_bind, Sem.run_pure, Result.andThen_ok, run_eqGuard_agg w _ _ _ _ _ _ guard_fault, eql_fault, hb]
  exact hK' _ _ hK
theorem wpList_eql_spot {w : World} {ops : Array Oper} {rest : List Oper} {o : Oper} {a : Act} {Q : Exit → Act → World → Prop} (hw : Region.wanted o (yielded ops a.tmps) = true) (x y : Operand) {t' : TypeId} (ho : o.op = .binOp .eql 131 x y t') {p q r p' q' r' : Int} {b : Bool} (hx : a.eval x = .agg #[.int .i64 p, .int .i64 q, .int .u64 r]) (hy : a.eval y = .agg #[.int .i64 p', .int .i64 q', .int .u64 r']) (hb : ((p == p') && (q == q') && (r == r')) = b)
    (hK : wpList Tryz.prog ops Q rest (a.put o.dst (.bool b)) w) : wpList Tryz.prog ops Q (o :: rest) a w := by
  refine wpList_step fun K' hK' => ?_
  rw [if_pos hw]
  unfold Oper.wp execOp
  simp only [ho, hx, hy, Sem.run_bind, Sem.run_pure, Result.andThen_ok, run_eqGuard_agg w _ _ _ _ _ _ guard_spot, eql_spot, hb]
  exact hK' _ _ hK
end Go.Proofs.YtddgoncbdlhhhaaGreat
/- BusMade: the walk. Own work. -/
namespace Go.Proofs.YtddgoncbdlhhhaaGreat
open Go.RowKit Go.Maps Go.Proofs.YtddgoncbdlhhhaaGreat.Sp
/-- are two numbers together beyond the bound? -/
def beyB (a b : Int) : Bool := decide (2147483647 < a ∨ 2147483647 - a < b)
set_option maxHeartbeats 2000000 in
theorem beyond2_any {a b : Int} {g cap : Nat} {w : World} (ha : 0 ≤ a ∧ a ≤ 9223372036854775807) (hb : 0 ≤ b ∧ b ≤ 9223372036854775807) (c0 : w.cell? ⟨g, 0, none⟩ = some (.int .i64 a)) (c1 : w.cell? ⟨g, 1, none⟩ = some (.int .i64 b)) :
    Calls Tryz.prog 4 #[.slice (some ⟨g, 0, none⟩) 2 cap] w fun e w' => e = .returned (.bool (beyB a b)) ∧ w' = w := by
  obtain ⟨a0, a1⟩ := ha
  obtain ⟨b0, b1⟩ := hb
  by_cases h1 : 2147483647 < a
  · have HE : Hid (beyB a b = true) := decide_eq_true (.inl h1)
    go_enter Tryz.func4, Tryz.ntmps4
    go_wp2_with fail
    refine wp_loop_rounds 3 ?_
    rw [rounds_succ]
    go_wp2_with fail
    go_ret
    exact ⟨by rw [HE.out]; rfl, rfl⟩
  · have l0 : 0 ≤ 2147483647 - a := by omega
    have l1 : 2147483647 - a ≤ 2147483647 := by omega
    by_cases h2 : 2147483647 - a < b
    · have HE : Hid (beyB a b = true) := decide_eq_true (.inr h2)
      go_enter Tryz.func4, Tryz.ntmps4
      go_wp2_with fail
      refine wp_loop_rounds 3 ?_
      rw [rounds_succ]
      go_wp2_with fail
      rw [rounds_succ]
      go_wp2_with fail
      go_ret
      exact ⟨by rw [HE.out]; rfl, rfl⟩
    · have HE : Hid (beyB a b = false) := decide_eq_false (by omega)
      go_enter Tryz.func4, Tryz.ntmps4
      go_wp2_with fail
      refine wp_loop_rounds 3 ?_
      rw [rounds_succ]
      go_wp2_with fail
      rw [rounds_succ]
      go_wp2_with fail
      rw [rounds_succ]
      go_wp2_with fail
      go_ret
      exact ⟨by rw [HE.out]; rfl, rfl⟩
set_option maxHeartbeats 1000000 in
theorem bsame_any {p q : Int} (w : World) : Calls Tryz.prog 20 #[.agg #[.int .i64 p, .int .u64 q], .agg #[.int .i64 p, .int .u64 q]] w fun e w' => e = .returned (.bool true) ∧ Below w.heap.size w w' := by
  go_enter Tryz.func20, Tryz.ntmps20
  go_wp2_with fail
  go_ret
  exact ⟨rfl, ((Below.refl _ _).alloc (Nat.le_refl _) _).alloc (by simp) _⟩
set_option maxHeartbeats 1000000 in
theorem rnew_any {w : World} {vr vd : Value} : Calls Tryz.prog 6 #[.agg #[vr, vd]] w fun e w' => ∃ m, e = .returned (.pointer (some ⟨m, 0, none⟩)) ∧ Hid (RBox w' m vr vd (.slice none 0 0) 0 0 0) ∧ Hid (Below w.heap.size w w' ∧ w.heap.size ≤ m) := by
  go_enter Tryz.func6, Tryz.ntmps6
  go_wp2_with fail
  go_ret
  exact ⟨_, rfl, heap_alloc_newN (by simp) _, ((Below.refl _ _).alloc (Nat.le_refl _) _).alloc (by simp) _, by simp⟩
theorem spot_on {a : Int} : ∀ (rs : List Sp) (i : Nat), (spotFrom a i rs).isSome = true ↔ On rs a
  | [], i => by simp [spotFrom, On]
  | r :: rs, i => by
    rw [spotFrom]
    by_cases h : r.1 ≤ a ∧ a < r.1 + r.2
    · rw [if_pos h]
      exact ⟨fun _ => ⟨r, List.mem_cons_self .., h⟩, fun _ => rfl⟩
    · rw [if_neg h, spot_on rs (i + 1)]
      constructor
      · rintro ⟨x, hx, hh⟩
        exact ⟨x, List.mem_cons_of_mem _ hx, hh⟩
      · rintro ⟨x, hx, hh⟩
        rcases List.mem_cons.1 hx with rfl | hx
        · exact absurd hh h
        · exact ⟨x, hx, hh⟩
theorem where_form (rs ds : List Sp) (a : Int) : ∃ k i o b, whereV rs ds a = .tuple #[.agg #[.int .i64 k, .int .i64 i, .int .u64 o], .bool b] ∧ (b = true ↔ On (rs ++ ds) a) := by
  have h1 := spot_on (a := a) rs 0
  have h2 := spot_on (a := a) ds 0
  unfold whereV
  cases hs : spotFrom a 0 rs with
  | some x =>
    rw [hs] at h1
    exact ⟨_, _, _, true, rfl, fun _ => by obtain ⟨r, hr, h⟩ := h1.1 rfl; exact ⟨r, List.mem_append_left _ hr, h⟩, fun _ => rfl⟩
  | none =>
    rw [hs] at h1
    cases ht : spotFrom a 0 ds with
    | some x =>
      rw [ht] at h2
      exact ⟨_, _, _, true, rfl, fun _ => by obtain ⟨r, hr, h⟩ := h2.1 rfl; exact ⟨r, List.mem_append_right _ hr, h⟩, fun _ => rfl⟩
    | none =>
      rw [ht] at h2
      refine ⟨0, 0, 0, false, rfl, ⟨fun h => (by cases h), ?_⟩⟩
      rintro ⟨r, hr, h⟩
      rcases List.mem_append.1 hr with hr | hr
      · exact absurd (h1.2 ⟨r, hr, h⟩) (by simp)
      · exact absurd (h2.2 ⟨r, hr, h⟩) (by simp)
theorem num_zero (a : Nat) : Pl.num 8 (rdTo (fun _ => 0) a 8 1) = 0 := by
  have : rdTo (fun _ => 0) a 8 1 = [0, 0, 0, 0, 0, 0, 0, 0] := rfl
  rw [this]
  rfl
theorem off_where {LL : List Sp} {a : Nat} {x : Int} {b bb : Bool} (h : OffR LL a 1 x bb) (hb : b = true ↔ On LL (a : Int)) : b = !bb := by
  cases bb with
  | true =>
    obtain ⟨i, hi, _, _, hn, _⟩ := h.1 rfl
    obtain rfl : i = 0 := by omega
    cases b with
    | false => rfl
    | true => exact absurd (by simpa using hb.1 rfl) hn
  | false =>
    have := (h.2 rfl).2 0 (by omega)
    exact hb.2 (by simpa using this)
theorem MadeR.some {base : Nat} {W : World} {rs ds : List Sp} {pm : Option Addr} (h : MadeR base W pm rs ds) (h0 : refW rs ds = 0) : ∃ m B V, pm = some ⟨m, 0, none⟩ ∧ Mac W m B V (fun _ => none) (fun _ => 0) rs ds 0 0 0 ∧ ∀ j, Mine m B V (fun _ => none) j → base ≤ j := by
  rcases h with ⟨h, _⟩ | ⟨_, h⟩
  · exact absurd h0 h
  · exact h
theorem refW_small : refW [(8192, 4096)] [] = 0 := by decide
theorem fits_small : Fits 18446744073709551615 [((8192 : Int), (4096 : Int))] := fun x hx => by
  rw [List.mem_singleton.1 hx]
  decide
/-- the boxes that the law's last sentence reads -/
def Five (W : World) (p q r s t : Nat) (vr vd : Value) (k i o why x : Int) : Prop := BoxB W p vr vd ∧ Box3 W q (.int .i64 k) (.int .i64 i) (.int .u64 o) ∧ Box3 W r (.int .i64 k) (.int .i64 i) (.int .u64 o) ∧ BoxF W s why x ∧ BoxG W t why x
theorem Box3.below {w w' : World} {b : Nat} {x y z : Value} (h : Box3 w b x y z) (hb : Below w.heap.size w w') : Box3 w' b x y z := (hb.block b (Array.getElem?_eq_some_iff.1 h).1).trans h
theorem Box3.keeps {Z : Nat → Prop} {w w' : World} {b : Nat} {x y z : Value} (h : Box3 w b x y z) (hk : Keeps Z w w') (hn : ¬ Z b) : Box3 w' b x y z := (hk.block b (Array.getElem?_eq_some_iff.1 h).1 hn).trans h
theorem Box3.lt {w : World} {b : Nat} {x y z : Value} (h : Box3 w b x y z) : b < w.heap.size := (Array.getElem?_eq_some_iff.1 h).1
theorem Five.below {W W' : World} {p q r s t : Nat} {vr vd : Value} {k i o why x : Int} (h : Five W p q r s t vr vd k i o why x) (hb : Below W.heap.size W W') : Five W' p q r s t vr vd k i o why x :=
  ⟨h.1.below hb, h.2.1.below hb, h.2.2.1.below hb, h.2.2.2.1.below hb, h.2.2.2.2.below hb⟩
abbrev Twelve (W : World) (p q r s t : Nat) (vr vd : Value) (k i o why x : Int) : Prop :=
  W.cell? ⟨p, 0, none⟩ = some vr ∧ W.cell? ⟨p, 1, none⟩ = some vd ∧ W.cell? ⟨q, 0, none⟩ = some (.int .i64 k) ∧ W.cell? ⟨q, 1, none⟩ = some (.int .i64 i) ∧ W.cell? ⟨q, 2, none⟩ = some (.int .u64 o) ∧ W.cell? ⟨r, 0, none⟩ = some (.int .i64 k) ∧ W.cell? ⟨r, 1, none⟩ = some (.int .i64 i) ∧ W.cell? ⟨r, 2, none⟩ = some (.int .u64 o) ∧ W.cell? ⟨s, 0, none⟩ = some (.int .i64 why) ∧ W.cell? ⟨s, 1, none⟩ = some (.int .u64 x) ∧ W.cell? ⟨t, 0, none⟩ = some (.int .i64 why) ∧ W.cell? ⟨t, 1, none⟩ = some (.int .u64 x)
theorem Five.cells {W : World} {p q r s t : Nat} {vr vd : Value} {k i o why x : Int} (h : Five W p q r s t vr vd k i o why x) : Twelve W p q r s t vr vd k i o why x := by
  obtain ⟨h1, h2, h3, h4, h5⟩ := h
  obtain ⟨a0, a1, _⟩ := h1.cells
  obtain ⟨b0, b1, b2, _⟩ := h2.cells
  obtain ⟨c0, c1, c2, _⟩ := h3.cells
  obtain ⟨d0, d1, _⟩ := h4.cells
  obtain ⟨e0, e1, _⟩ := h5.cells
  exact ⟨a0, a1, b0, b1, b2, c0, c1, c2, d0, d1, e0, e1⟩
theorem Mac.pair {w : World} {m B : Nat} {V : Value × Value × Value} {T : Nat → Option Nat} {M : Nat → Nat} {rs ds : List Sp} {L S X : Nat} (h : Mac w m B V T M rs ds L S X) : Sane (rs ++ ds) := by
  obtain ⟨_, _, _, _, _, _, _, h6, _⟩ := h
  exact h6
theorem refW_len {rs ds : List Sp} (h : refW rs ds = 0) : rs.length ≤ 8 ∧ ds.length ≤ 32 := by
  by_cases hl : 8 < rs.length ∨ 32 < ds.length
  · rw [refW, if_pos hl] at h
    omega
  · omega
end Go.Proofs.YtddgoncbdlhhhaaGreat
