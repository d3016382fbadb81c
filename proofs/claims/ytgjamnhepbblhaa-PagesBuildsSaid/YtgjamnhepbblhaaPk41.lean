import Derived.Test.YtgjamnhepbblhaaPk12
import Derived.Test.YtgjamnhepbblhaaPk40
import Derived.Test.YtgjamnhepbblhaaPk29
/- Pages: other: rows with one thing turned. Own work. -/
namespace Go.Proofs.Ytgjamnhepbblhaa
open Go.RowKit Wk
set_option linter.unusedVariables false
/-- a row with its Write and its Phys turned -/
def turnL (x : L6) : L6 := ⟨x.v, x.p ^^^ 4194304, x.n, x.big, !x.wr, x.ex⟩
theorem turn_ok {x : L6} (h : L6.ok x) : L6.ok (turnL x) := by
  obtain ⟨a, b, c, d⟩ := h
  refine ⟨a, ?_, c, d⟩
  have : x.p ^^^ 4194304 < 2 ^ 64 := Nat.xor_lt_two_pow (by omega) (by decide)
  show x.p ^^^ 4194304 ≤ _
  omega
theorem wpList_copyLv {w : World} {ops : Array Oper} {rest : List Oper} {o : Oper} {a : Act} {Q : Exit → Act → World → Prop} (hgd : o.guard = none) (x : Operand)
    (ho : o.op = .call { callee := .builtin .append, args := #[.const (.slice none 0 0), x], argTypes := #[22, 22] }) {l : Value} {xs : List L6} (hl : Lv w l xs) (hlen : xs.length ≤ 1048576) (hx : a.eval x = l)
    (h : ∀ va vc w', Hid (OwnL w' w.heap.size (.slice va xs.length vc) xs) → Hid (w.grownBy w' none) → wpList Try.prog ops Q rest (a.put o.dst (.slice va xs.length vc)) w') : wpList Try.prog ops Q (o :: rest) a w :=
  wpList_plain hgd fun K hK => by
    obtain ⟨v', w', hr, h2, h3⟩ := run_copyLv o.type hl hlen
    obtain ⟨va, vc, rfl⟩ := h2.form
    have hc0 : a.eval (.const (.slice none 0 0)) = .slice none 0 0 := rfl
    unfold Oper.wp execOp
    simp only [ho, resolve, invoke, builtin, Sem.run_bind, Sem.run_pure, Result.andThen_ok, List.map_toArray, List.map_cons, List.map_nil, hc0, hx, hr]
    exact hK _ _ (h va vc w' h2 h3)
theorem encLs_set1 (xs : List L6) (j : Nat) (hj : j < xs.length) (b : Bool) : (encLs xs).set (j * 6 + 4) (.bool b) = encLs (xs.set j ⟨xs[j].v, xs[j].p, xs[j].n, xs[j].big, b, xs[j].ex⟩) := by
  induction xs generalizing j with
  | nil => simp at hj
  | cons y ys ih =>
    cases j with
    | zero => rfl
    | succ j =>
      have := ih j (by simpa using hj)
      rw [show encLs (y :: ys) = encL y ++ encLs ys from rfl, List.set_append_right _ _ (by simp [encL]; omega), show (j + 1) * 6 + 4 - (encL y).length = j * 6 + 4 by simp [encL]; omega, this, List.set_cons_succ]
      rfl
theorem encLs_set2 (xs : List L6) (j : Nat) (hj : j < xs.length) (p : Nat) : (encLs xs).set (j * 6 + 1) (.int .u64 (p : Int)) = encLs (xs.set j ⟨xs[j].v, p, xs[j].n, xs[j].big, xs[j].wr, xs[j].ex⟩) := by
  induction xs generalizing j with
  | nil => simp at hj
  | cons y ys ih =>
    cases j with
    | zero => rfl
    | succ j =>
      have := ih j (by simpa using hj)
      rw [show encLs (y :: ys) = encL y ++ encLs ys from rfl, List.set_append_right _ _ (by simp [encL]; omega), show (j + 1) * 6 + 1 - (encL y).length = j * 6 + 1 by simp [encL]; omega, this, List.set_cons_succ]
      rfl
/-- a cell of a row that is owned is written -/
theorem OwnL.setC {w : World} {base g n c : Nat} {xs ys : List L6} {q : Nat} {u : Value} (h : OwnL w base (.slice (some ⟨g, 0, none⟩) n c) xs) (hq : q < xs.length * 6) (e : (encLs xs).set q u = encLs ys) (hl : ys.length = xs.length) : OwnL (w.setCell ⟨g, q, none⟩ u) base (.slice (some ⟨g, 0, none⟩) n c) ys ∧ w.frozen? ⟨g, q, none⟩ = false ∧ base ≤ g := by
  rcases h.2 with ⟨hc, _⟩ | ⟨g', cap, cur, hv, hb, hg, h1, h2, hs, ht⟩
  · cases hc
  · simp only [Value.slice.injEq, Option.some.injEq, Addr.mk.injEq, and_true] at hv
    obtain ⟨rfl, hn, rfl⟩ := hv
    refine ⟨⟨by rw [encLs_length], .inr ⟨g, c, cur.setIfInBounds q u, by rw [hl, hn], hb, ?_, by omega, h2, by simp [hs], ?_⟩⟩, by simp [World.frozen?, hg], hb⟩
    · simp [World.setCell, Array.getElem?_modify, hg]
    · rw [hl, Array.toList_setIfInBounds, List.take_set, ht, e]
theorem OwnL.spot {w : World} {base : Nat} {v : Value} {xs : List L6} (h : OwnL w base v xs) (hp : 0 < xs.length) : ∃ g c, v = .slice (some ⟨g, 0, none⟩) xs.length c ∧ xs.length ≤ c ∧ c ≤ maxLen := by
  rcases h.2 with ⟨_, h0⟩ | ⟨g, cap, cur, e, hb, hg, h1, h2, _⟩
  · omega
  · exact ⟨g, cap, e, h1, h2⟩
theorem OwnL.cellv {w : World} {base g n c : Nat} {xs : List L6} (h : OwnL w base (.slice (some ⟨g, 0, none⟩) n c) xs) {j : Nat} (hj : j < xs.length) {i : Nat} (hi : i < 6) : w.cell? ⟨g, j * 6 + i, none⟩ = (encL xs[j])[i]? := by
  have hn : n = xs.length := by
    rcases h.2 with ⟨hc, _⟩ | ⟨_, _, _, e, _⟩
    · cases hc
    · simp only [Value.slice.injEq] at e
      exact e.2.1
  subst hn
  rw [World.ownsRow.cellAt h (j * 6 + i) (by omega)]
  exact encLs_get xs j i hj hi
set_option maxRecDepth 100000 in
set_option maxHeartbeats 4000000 in
theorem bookWithin_any {n : Int} {hi : Nat} (hh : hi ≤ 140737488351232) (w : World) :
    Calls Try.prog 25 #[.int .i64 n, .int .i64 0, .int .i64 (hi : Int)] w fun e w' => ∃ r : Nat, e = .returned (.int .i64 (r : Int)) ∧ r ≤ hi ∧ w = w' := by
  obtain ⟨q, hq⟩ : ∃ q, q = n.tmod ((hi : Int) + 1) := ⟨_, rfl⟩
  have hq1 : -((hi : Int) + 1) < q ∧ q < (hi : Int) + 1 := by
    have := Int.tmod_lt_of_pos n (b := (hi : Int) + 1) (by omega)
    have := Int.lt_tmod_of_pos n (b := (hi : Int) + 1) (by omega)
    omega
  have hne : (hi : Int) + 1 ≠ 0 := by omega
  go_enter Try.func25, Try.ntmps25
  go_wp2_with fail
  all_goals (go_ret; rw [← hq] at *)
  · exact ⟨(q + hi + 1).toNat, by rw [Int.toNat_of_nonneg (by omega)]; rfl, by omega, rfl⟩
  · exact ⟨q.toNat, by rw [Int.toNat_of_nonneg (by omega)]; rfl, by omega, rfl⟩
theorem xor_nat {a b : Nat} (ha : a ≤ 18446744073709551615) (hb : b ≤ 18446744073709551615) : bits .xor .u64 (a : Int) (b : Int) = ((a ^^^ b : Nat) : Int) := u64_xor_nat a b (by omega) (by omega)
set_option maxRecDepth 100000 in
set_option maxHeartbeats 4000000 in
theorem other_any {w : World} {v : Value} {xs : List L6} {at' : Int} (h : Lv w v xs) (hl : xs.length ≤ 20000) : Calls Try.prog 7 #[v, .int .i64 at'] w fun e w' => ∃ u ys, e = .returned u ∧ OwnL w' w.heap.size u ys ∧ ys.length = xs.length ∧ (∀ y ∈ ys, L6.ok y) ∧ Below w.heap.size w w' := by
  have HV := Lib.hid h
  have hok : ∀ x ∈ xs, L6.ok x := h.choose_spec.choose_spec.2.2.2.1
  have HOk : Hid (∀ x ∈ xs, L6.ok x) := hok
  have HL : Hid (xs.length ≤ 1048576) := show _ ≤ _ by omega
  obtain ⟨ao, cap, rfl, h1, h2, _⟩ := h
  unfold maxLen at h2
  clear hok
  have HF : Hid (∀ W' va vc, OwnL W' w.heap.size (.slice va xs.length vc) xs → w.grownBy W' none → 0 < xs.length → ∃ g, va = some ⟨g, 0, none⟩ ∧ xs.length ≤ vc ∧ vc ≤ maxLen) := fun W' va vc ho hg hp => by
    obtain ⟨g, c, e, e1, e2⟩ := ho.spot hp
    simp only [Value.slice.injEq] at e
    obtain ⟨rfl, _, rfl⟩ := e
    exact ⟨g, rfl, e1, e2⟩
  go_enter Try.func7, Try.ntmps7
  by_cases hp : 0 < xs.length
  · go_upto_region 2 with (refine wpList_copyLv (l := .slice ao xs.length cap) rfl (.tmp 7) rfl HV.out HL.out rfl ?_; intro va vc w1 HO1 HG1)
    have HB1 : Hid (Below w.heap.size w w1) := below_grown HG1.out (Nat.le_refl _) (by simp)
    obtain ⟨g, rfl, hvc, hvm⟩ := HF.out _ _ _ HO1.out HG1.out hp
    unfold maxLen at hvm
    obtain ⟨n, hn⟩ : ∃ n, xs.length = n + 1 := ⟨xs.length - 1, by omega⟩
    have HN := Lib.hid hn
    have HW := Lib.hid (fun W => bookWithin_any (n := at') (hi := n) (by omega) W)
    rw [hn] at hl h1 hvc HO1 ⊢
    clear HF HG1 HL HV hp hn h1 h2
    have jl : IntKind.i64.wrap (((n + 1 : Nat) : Int) - 1) = (n : Int) := by rw [IntKind.wrap_i64]; omega
    have jl' : ((n + 1 : Nat) : Int) - 1 = (n : Int) := by omega
    have jp : (0 : Int) < ((n + 1 : Nat) : Int) := by omega
    go_wp2_with fail
    refine (HW.out _).mono ?_
    rintro e w2 ⟨k, rfl, hk, hw2⟩
    subst hw2
    have hkl : k < xs.length := by have := HN.out; omega
    have c4 := HO1.out.cellv (j := k) (i := 4) hkl (by omega)
    have S1 := HO1.out.setC (q := k * 6 + 4) (u := .bool (!xs[k].wr)) (by omega) (encLs_set1 xs k hkl _) (by simp)
    obtain ⟨s1, z4, hbg⟩ := S1
    have hkl' : k < (xs.set k ⟨xs[k].v, xs[k].p, xs[k].n, xs[k].big, !xs[k].wr, xs[k].ex⟩).length := by simpa using hkl
    have c1 := s1.cellv (j := k) (i := 1) hkl' (by omega)
    have S2 := s1.setC (q := k * 6 + 1) (u := .int .u64 ((xs[k].p ^^^ 4194304 : Nat) : Int)) (by simp; omega) (encLs_set2 _ k hkl' _) (by simp)
    obtain ⟨s2, z1, _⟩ := S2
    simp only [List.getElem_set_self, encL, List.getElem?_cons_zero, List.getElem?_cons_succ] at c1 c4
    have hpk := (HOk.out xs[k] (List.getElem_mem _)).2.1
    have jx : bits .xor .u64 (xs[k].p : Int) 4194304 = ((xs[k].p ^^^ 4194304 : Nat) : Int) := xor_nat (b := 4194304) hpk (by decide)
    have HS2 := Lib.hid s2
    have HFin : Hid (∀ y ∈ ((xs.set k ⟨xs[k].v, xs[k].p, xs[k].n, xs[k].big, !xs[k].wr, xs[k].ex⟩).set k ⟨(xs.set k ⟨xs[k].v, xs[k].p, xs[k].n, xs[k].big, !xs[k].wr, xs[k].ex⟩)[k].v, xs[k].p ^^^ 4194304, (xs.set k ⟨xs[k].v, xs[k].p, xs[k].n, xs[k].big, !xs[k].wr, xs[k].ex⟩)[k].n, (xs.set k ⟨xs[k].v, xs[k].p, xs[k].n, xs[k].big, !xs[k].wr, xs[k].ex⟩)[k].big, (xs.set k ⟨xs[k].v, xs[k].p, xs[k].n, xs[k].big, !xs[k].wr, xs[k].ex⟩)[k].wr, (xs.set k ⟨xs[k].v, xs[k].p, xs[k].n, xs[k].big, !xs[k].wr, xs[k].ex⟩)[k].ex⟩), L6.ok y) := fun y hy => by
      rw [List.set_set] at hy
      rcases List.mem_or_eq_of_mem_set hy with hy | rfl
      · exact HOk.out y hy
      · simp only [List.getElem_set_self]
        exact turn_ok (HOk.out xs[k] (List.getElem_mem _))
    have HBz : Hid (Below w.heap.size w ((w1.setCell ⟨g, k * 6 + 4, none⟩ (.bool (!xs[k].wr))).setCell ⟨g, k * 6 + 1, none⟩ (.int .u64 ((xs[k].p ^^^ 4194304 : Nat) : Int)))) := (HB1.out.setCell hbg _).setCell hbg _
    have HLz : Hid (((xs.set k ⟨xs[k].v, xs[k].p, xs[k].n, xs[k].big, !xs[k].wr, xs[k].ex⟩).set k ⟨(xs.set k ⟨xs[k].v, xs[k].p, xs[k].n, xs[k].big, !xs[k].wr, xs[k].ex⟩)[k].v, xs[k].p ^^^ 4194304, (xs.set k ⟨xs[k].v, xs[k].p, xs[k].n, xs[k].big, !xs[k].wr, xs[k].ex⟩)[k].n, (xs.set k ⟨xs[k].v, xs[k].p, xs[k].n, xs[k].big, !xs[k].wr, xs[k].ex⟩)[k].big, (xs.set k ⟨xs[k].v, xs[k].p, xs[k].n, xs[k].big, !xs[k].wr, xs[k].ex⟩)[k].wr, (xs.set k ⟨xs[k].v, xs[k].p, xs[k].n, xs[k].big, !xs[k].wr, xs[k].ex⟩)[k].ex⟩).length = n + 1) := show _ = _ by rw [List.length_set, List.length_set]; exact HN.out
    generalize ((xs.set k ⟨xs[k].v, xs[k].p, xs[k].n, xs[k].big, !xs[k].wr, xs[k].ex⟩).set k ⟨(xs.set k ⟨xs[k].v, xs[k].p, xs[k].n, xs[k].big, !xs[k].wr, xs[k].ex⟩)[k].v, xs[k].p ^^^ 4194304, (xs.set k ⟨xs[k].v, xs[k].p, xs[k].n, xs[k].big, !xs[k].wr, xs[k].ex⟩)[k].n, (xs.set k ⟨xs[k].v, xs[k].p, xs[k].n, xs[k].big, !xs[k].wr, xs[k].ex⟩)[k].big, (xs.set k ⟨xs[k].v, xs[k].p, xs[k].n, xs[k].big, !xs[k].wr, xs[k].ex⟩)[k].wr, (xs.set k ⟨xs[k].v, xs[k].p, xs[k].n, xs[k].big, !xs[k].wr, xs[k].ex⟩)[k].ex⟩) = ys at HS2 HFin HLz
    have kn : (k : Int) < ((n + 1 : Nat) : Int) := by omega
    clear s1 s2 hkl' hpk HO1 HB1 HW hbg
    generalize xs[k].wr = bw at *
    generalize xs[k].p ^^^ 4194304 = pz at *
    generalize xs[k].p = px at *
    go_wp2_with fail
    go_ret
    exact ⟨_, ys, rfl, HS2.out, HLz.out.trans HN.out.symm, HFin.out, HBz.out⟩
  · obtain rfl : xs = [] := List.eq_nil_of_length_eq_zero (by omega)
    go_upto_region 2 with (refine wpList_copyLv (l := .slice ao ([] : List L6).length cap) rfl (.tmp 7) rfl HV.out HL.out rfl ?_; intro va vc w1 HO1 HG1)
    have HB1 : Hid (Below w.heap.size w w1) := below_grown HG1.out (Nat.le_refl _) (by simp)
    simp only [List.length_nil] at HO1 ⊢
    clear HF HG1 HL HV hp h1 h2
    go_wp2_with fail
    go_ret
    exact ⟨_, [], rfl, HO1.out, rfl, (fun _ h => by cases h), HB1.out⟩
end Go.Proofs.Ytgjamnhepbblhaa
/- Pages: PagesBuilds, the walk. Own work. -/
namespace Go.Proofs.Ytgjamnhepbblhaa
open Go.RowKit Wk
set_option linter.unusedVariables false
def lfB : L6 := ⟨12288, 32768, 2, false, true, false⟩
theorem apartU_two {B kt kl : Nat} {w : World} (h : TwoU B kt w) (hl : TwoL B kl w) (hB : B ≤ w.heap.size) : Calls Try.prog 8 #[.pointer (some ⟨kt, 0, none⟩), .func (.func 9) #[] #[]] w fun e w' => e = .returned (.bool true) ∧ TwoL B kl w' ∧ Below B w w' := by
  obtain ⟨h0, lv, wv, held, E, hk, hlen⟩ := h
  refine (bkU_apart hk hlen).mono ?_
  rintro e w' ⟨rfl, k⟩
  obtain ⟨g0, lv2, wv2, held2, E2, hk2, hlen2⟩ := hl
  refine ⟨rfl, ⟨g0, lv2, wv2, held2, E2, hk2.keeps k (fun i t hs hi => ?_), hlen2⟩, k.below hB (fun i _ hs => ?_)⟩
  · rcases hs with rfl | ⟨x, hx, hs⟩
    · rw [tag_same hi ⟨_, hk.blk⟩]; decide
    · rw [tag_same hi ((hk.ents x hx).l.tagB i hs)]; decide
  · rcases hs with rfl | ⟨x, hx, hs⟩
    · exact h0
    · exact ((hk.ents x hx).l.lt i hs).1
theorem apartL_two {B kl : Nat} {w : World} (hl : TwoL B kl w) (hB : B ≤ w.heap.size) : Calls Try.prog 10 #[.pointer (some ⟨kl, 0, none⟩), .func (.func 11) #[] #[]] w fun e w' => e = .returned (.bool true) ∧ Below B w w' := by
  obtain ⟨h0, lv, wv, held, E, hk, hlen⟩ := hl
  refine (bkL_apart hk hlen).mono ?_
  rintro e w' ⟨rfl, k⟩
  refine ⟨rfl, k.below hB (fun i _ hs => ?_)⟩
  rcases hs with rfl | ⟨x, hx, hs⟩
  · exact h0
  · exact ((hk.ents x hx).l.lt i hs).1
/-- the first rows, the two new books -/
def newB : Array Value := #[.slice none 0 0, .slice none 0 0, .int .i64 0, .bool false]
theorem first_two (w : World) : let W := ((w.alloc (.cells newB 27)).alloc (.cells newB 31)).alloc (.cells #[.int .u64 12288, .int .u64 32768, .int .i64 2, .bool false, .bool true, .bool false] 34);
    TwoU w.heap.size w.heap.size W ∧ TwoL w.heap.size (w.heap.size + 1) W ∧ (∀ w', Kx w.heap.size W w' → Lv w' (.slice (some ⟨w.heap.size + 1 + 1, 0, none⟩) 1 1) [lfB]) ∧ Below w.heap.size w W ∧ w.heap.size ≤ W.heap.size := by
  intro W
  have b0 : (w.alloc (.cells newB 27)).heap[w.heap.size]? = some (.cells newB 27 (0, 0)) := heap_alloc_new w _
  have s1 : (w.alloc (.cells newB 27)).heap.size = w.heap.size + 1 := by simp
  have b1 : ((w.alloc (.cells newB 27)).alloc (.cells newB 31)).heap[w.heap.size + 1]? = some (.cells newB 31 (0, 0)) := by
    have := heap_alloc_new (w.alloc (.cells newB 27)) (.cells newB 31)
    rwa [s1] at this
  have s2 : ((w.alloc (.cells newB 27)).alloc (.cells newB 31)).heap.size = w.heap.size + 1 + 1 := by simp
  have c0 : W.heap[w.heap.size]? = some (.cells newB 27 (0, 0)) := (Below.heap_alloc _ _ _ (by rw [s2]; omega)).trans ((Below.heap_alloc _ _ _ (by rw [s1]; omega)).trans b0)
  have c1 : W.heap[w.heap.size + 1]? = some (.cells newB 31 (0, 0)) := (Below.heap_alloc _ _ _ (by rw [s2]; omega)).trans b1
  have c2 : LfAt W (w.heap.size + 1 + 1) lfB := by
    have := heap_alloc_new ((w.alloc (.cells newB 27)).alloc (.cells newB 31)) (.cells #[.int .u64 12288, .int .u64 32768, .int .i64 2, .bool false, .bool true, .bool false] 34)
    rw [s2] at this
    exact this
  refine ⟨⟨Nat.le_refl _, _, _, _, _, bkU_new c0, Nat.zero_le _⟩, ⟨Nat.le_succ _, _, _, _, _, bkL_new c1, Nat.zero_le _⟩, fun w' k => ?_, ((((Below.refl _ _).alloc (Nat.le_refl _) _).alloc (by rw [s1]; omega) _).alloc (by rw [s2]; omega) _), ?_⟩
  · have d : LfAt w' (w.heap.size + 1 + 1) lfB := (k.block _ c2.lt (k.tagged ⟨_, c2⟩ (by decide) (by decide) (by decide) (by decide))).trans c2
    obtain ⟨e0, e1, e2, e3, e4, e5⟩ := d.cells
    refine ⟨some ⟨w.heap.size + 1 + 1, 0, none⟩, 1, rfl, Nat.le_refl _, by unfold maxLen; omega, (fun x hx => by rw [List.mem_singleton.1 hx]; unfold L6.ok lfB; decide), fun i hi => ?_⟩
    have hi0 : i = 0 := by simp at hi; exact hi
    subst hi0
    exact ⟨w.heap.size + 1 + 1, 0, rfl, e0, e1, e2, e3, e4, e5⟩
  · exact (((((Below.refl _ _).alloc (Nat.le_refl _) _).alloc (by rw [s1]; omega) _).alloc (by rw [s2]; omega) _) : Below w.heap.size w W).size
set_option maxRecDepth 100000 in
set_option maxHeartbeats 8000000 in
theorem builds_walk {w : World} {v : Value} {xs : List L6} {base : Nat} {at' : Int} (h : Lv w v xs) (hb : base ≤ 18446744073709551615) : Calls Try.prog 3 #[v, .int .u64 (base : Int), .int .i64 at'] w fun e w' => e = .returned (.bool true) ∧ Below w.heap.size w w' := by
  have HR : Hid (∀ W, Below w.heap.size w W → Lv W v xs) := fun W hW => h.below hW
  have hft := first_two w
  simp only [newB] at hft
  obtain ⟨hu0, hl0, hv0, hb0, hs0⟩ := hft
  have HU0 : Hid (TwoU w.heap.size w.heap.size _) := hu0
  have HL0 : Hid (TwoL w.heap.size (w.heap.size + 1) _) := hl0
  have HV0 : Hid (∀ w', Kx w.heap.size _ w' → Lv w' (.slice (some ⟨w.heap.size + 1 + 1, 0, none⟩) 1 1) [lfB]) := hv0
  have HB0 : Hid (Below w.heap.size w _) := hb0
  clear hu0 hl0 hv0 hb0 hs0
  obtain ⟨ao, cap, rfl, q1, q2, q9⟩ := h
  clear q9
  unfold maxLen at q2
  obtain ⟨n, hn⟩ : ∃ n, xs.length = n := ⟨_, rfl⟩
  have HN := Lib.hid hn
  rw [hn] at q1 HR ⊢
  clear hn
  go_enter Try.func3, Try.ntmps3
  go_wp2_with fail
  refine (asked_any (base := 65536) HU0.out HL0.out HB0.out.size HV0.out (by decide) (by decide)).mono ?_
  rintro e w4 ⟨rfl, hu4, hl4, hk4⟩
  have HU4 : Hid (TwoU w.heap.size w.heap.size w4) := hu4
  have HL4 : Hid (TwoL w.heap.size (w.heap.size + 1) w4) := hl4
  have HB4 : Hid (Below w.heap.size w w4) := HB0.out.trans (hk4.below HB0.out.size)
  clear hu4 hl4 hk4 HU0 HL0 HV0 HB0
  go_upto_region 5 with fail
  go_cut [31] (fun y wx => ∃ bb : Bool, y = .bool bb ∧ Hid (bb = false → n ≤ 20000) ∧ Hid (TwoU w.heap.size w.heap.size wx) ∧ Hid (TwoL w.heap.size (w.heap.size + 1) wx) ∧ Hid (Below w.heap.size w wx))
  case first =>
    by_cases hl : n ≤ 20000
    · have jl : ¬ (20000 : Int) < (n : Int) := by omega
      go_wp2_with fail
      refine (rrefuses_any (HR.out _ HB4.out)).mono ?_
      rintro e w5 ⟨rfl, hb5⟩
      have HU5 : Hid (TwoU w.heap.size w.heap.size w5) := HU4.out.below hb5
      have HL5 : Hid (TwoL w.heap.size (w.heap.size + 1) w5) := HL4.out.below hb5
      have HB5 : Hid (Below w.heap.size w w5) := HB4.out.trans (hb5.mono HB4.out.size)
      clear hb5 HU4 HL4 HB4
      by_cases hr : refuF 0 xs = 0
      · have HF := Lib.hid (few_any (HR.out _ HB5.out) (fun x hx => (alone_ok (refu_all hr x hx)).2))
        rw [hr]
        go_wp2_with fail
        refine HF.out.mono ?_
        rintro e w6 ⟨b, rfl, _, hb6⟩
        have HU6 : Hid (TwoU w.heap.size w.heap.size w6) := HU5.out.below hb6
        have HL6 : Hid (TwoL w.heap.size (w.heap.size + 1) w6) := HL5.out.below hb6
        have HB6 : Hid (Below w.heap.size w w6) := HB5.out.trans (hb6.mono HB5.out.size)
        clear hb6 HU5 HL5 HB5 HF
        go_wp2_with fail
        go_meet
        exact ⟨_, rfl, fun _ => hl, HU6, HL6, HB6⟩
      · obtain ⟨rv, hrv⟩ : ∃ rv, refuF 0 xs = rv := ⟨_, rfl⟩
        rw [hrv] at hr ⊢
        clear hrv
        go_wp2_with fail
        go_meet
        exact ⟨_, rfl, fun _ => hl, HU5, HL5, HB5⟩
    · have jl : (20000 : Int) < (n : Int) := by omega
      go_wp2_with fail
      go_meet
      exact ⟨_, rfl, (fun e => by simp at e), HU4, HL4, HB4⟩
  case rest =>
    obtain ⟨bb, rfl, HLe, HU5, HL5, HB5⟩ := hcut
    clear HU4 HL4 HB4
    cases bb with
    | true =>
      go_wp2_with fail
      go_ret
      exact ⟨rfl, HB5.out⟩
    | false =>
      have hn2 : n ≤ 20000 := HLe.out rfl
      have HX : Hid (xs.length ≤ 20000) := show _ ≤ _ by rw [HN.out]; exact hn2
      clear HLe
      have HRk : Hid (∀ W W', Below w.heap.size w W → Kx w.heap.size W W' → Lv W' (.slice ao n cap) xs) := fun W W' hW k => HR.out _ (hW.trans (k.below hW.size))
      go_wp2_with fail
      refine (asked_any HU5.out HL5.out HB5.out.size (HRk.out _ · HB5.out) HX.out hb).mono ?_
      rintro e w6 ⟨rfl, hu6, hl6, hk6⟩
      have HU6 : Hid (TwoU w.heap.size w.heap.size w6) := hu6
      have HL6 : Hid (TwoL w.heap.size (w.heap.size + 1) w6) := hl6
      have HB6 : Hid (Below w.heap.size w w6) := HB5.out.trans (hk6.below HB5.out.size)
      clear hu6 hl6 hk6 HU5 HL5 HB5
      go_wp2_with fail
      refine (other_any (at' := at') (HR.out _ HB6.out) HX.out).mono ?_
      rintro e w7 ⟨u, ys, rfl, ho7, hy7, hok7, hb7⟩
      have HO7 : Hid (OwnL w7 w6.heap.size u ys) := ho7
      have HY7 : Hid (ys.length ≤ 20000) := show _ ≤ _ by rw [hy7]; exact HX.out
      have HK7 : Hid (∀ y ∈ ys, L6.ok y) := hok7
      have HU7 : Hid (TwoU w.heap.size w.heap.size w7) := HU6.out.below hb7
      have HL7 : Hid (TwoL w.heap.size (w.heap.size + 1) w7) := HL6.out.below hb7
      have HB7 : Hid (Below w.heap.size w w7) := HB6.out.trans (hb7.mono HB6.out.size)
      clear ho7 hy7 hok7 hb7 HU6 HL6 HB6
      go_wp2_with fail
      refine (asked_any HU7.out HL7.out HB7.out.size (fun w' k => (HO7.out.kx k).lv HK7.out) HY7.out hb).mono ?_
      rintro e w8 ⟨rfl, hu8, hl8, hk8⟩
      have HU8 : Hid (TwoU w.heap.size w.heap.size w8) := hu8
      have HL8 : Hid (TwoL w.heap.size (w.heap.size + 1) w8) := hl8
      have HB8 : Hid (Below w.heap.size w w8) := HB7.out.trans (hk8.below HB7.out.size)
      clear hu8 hl8 hk8 HU7 HL7 HB7 HO7 HK7 HY7
      go_wp2_with fail
      refine (asked_any HU8.out HL8.out HB8.out.size (HRk.out _ · HB8.out) HX.out hb).mono ?_
      rintro e w9 ⟨rfl, hu9, hl9, hk9⟩
      have HU9 : Hid (TwoU w.heap.size w.heap.size w9) := hu9
      have HL9 : Hid (TwoL w.heap.size (w.heap.size + 1) w9) := hl9
      have HB9 : Hid (Below w.heap.size w w9) := HB8.out.trans (hk9.below HB8.out.size)
      clear hu9 hl9 hk9 HU8 HL8 HB8
      go_wp2_with fail
      refine (apartU_two HU9.out HL9.out HB9.out.size).mono ?_
      rintro e wA ⟨rfl, hlA, hbA⟩
      have HLA : Hid (TwoL w.heap.size (w.heap.size + 1) wA) := hlA
      have HBA : Hid (Below w.heap.size w wA) := HB9.out.trans hbA
      clear hlA hbA HU9 HL9 HB9
      go_wp2_with fail
      refine (apartL_two HLA.out HBA.out.size).mono ?_
      rintro e wB ⟨rfl, hbB⟩
      have HBB : Hid (Below w.heap.size w wB) := HBA.out.trans hbB
      clear hbB HLA HBA
      go_wp2_with fail
      go_ret
      exact ⟨rfl, HBB.out⟩
end Go.Proofs.Ytgjamnhepbblhaa
