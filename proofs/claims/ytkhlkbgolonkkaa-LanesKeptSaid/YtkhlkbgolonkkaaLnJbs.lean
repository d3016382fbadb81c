/- Lanes: all jobs of the needs. Own work. -/
import Derived.Test.YtkhlkbgolonkkaaLnPush
import Derived.Test.YtkhlkbgolonkkaaLnRun
namespace Go.Proofs.Ytkhlkbgolonkkaa
open Go.RowKit
set_option linter.unusedVariables false
/-- the jobs of one need -/
def jobsI (m : Nat) (i : Nat) (r : R4) (q : Nat) : List J4 := (List.range q).map fun k => ⟨(i : Int), ((k * r.p : Nat) : Int), ((k * r.p + r.p : Nat) : Int), (r.b : Int)⟩
/-- the jobs of all needs -/
def allJ (m : Nat) : Nat → List R4 → List J4
  | _, [] => []
  | i, r :: rs => jobsI m i r (m / r.p) ++ allJ m (i + 1) rs
theorem jobsI_next (m i : Nat) (r : R4) (q : Nat) : jobsI m i r (q + 1) = jobsI m i r q ++ [⟨(i : Int), ((q * r.p : Nat) : Int), ((q * r.p + r.p : Nat) : Int), (r.b : Int)⟩] := by
  unfold jobsI
  rw [List.range_succ, List.map_append]
  rfl
theorem jobsI_length (m i : Nat) (r : R4) (q : Nat) : (jobsI m i r q).length = q := by simp [jobsI]
theorem allJ_append (m : Nat) : ∀ (xs ys : List R4) (i : Nat), allJ m i (xs ++ ys) = allJ m i xs ++ allJ m (i + xs.length) ys
  | [], ys, i => by simp [allJ]
  | x :: xs, ys, i => by
    simp only [List.cons_append, allJ, List.length_cons, allJ_append m xs ys (i + 1), List.append_assoc]
    rw [show i + 1 + xs.length = i + (xs.length + 1) by omega]
theorem allJ_next (m : Nat) (xs : List R4) (i : Nat) (h : i < xs.length) : allJ m 0 (xs.take (i + 1)) = allJ m 0 (xs.take i) ++ jobsI m i xs[i] (m / xs[i].p) := by
  rw [List.take_succ_eq_append_getElem h, allJ_append]
  simp only [allJ, List.append_nil, List.length_take, Nat.zero_add]
  rw [Nat.min_eq_left (by omega)]
theorem allJ_take (m : Nat) (xs : List R4) (i : Nat) : (allJ m 0 (xs.take i)).length ≤ (allJ m 0 xs).length := by
  have h := allJ_append m (xs.take i) (xs.drop i) 0
  rw [List.take_append_drop] at h
  rw [h, List.length_append]
  omega
theorem wpList_append4 {w : World} {base : Nat} {ops : Array Oper} {rest : List Oper} {o : Oper} {a : Act} {Q : Exit → Act → World → Prop} (hgd : o.guard = none) (s x : Operand)
    (ho : o.op = .call { callee := .builtin .append, args := #[s, x], argTypes := #[82, 82] }) {v : Value} {xs : List J4} {t : J4} {g cap : Nat} (hown : OwnJ w base v xs) (hs : a.eval s = v) (hx : a.eval x = .slice (some ⟨g, 0, none⟩) 1 cap) (hg : B4 w g t) (hb : xs.length ≤ 1048576) (hbase : base ≤ w.heap.size)
    (h : ∀ v' w', Hid (OwnJ w' base v' (xs ++ [t])) → Hid (w.grownBy w' v.ownBlock) → Hid (v'.ownBlock = v.ownBlock ∨ v'.ownBlock = some w.heap.size) → wpList Try.prog ops Q rest (a.put o.dst v') w') : wpList Try.prog ops Q (o :: rest) a w :=
  wpList_plain hgd fun K hK => by
    obtain ⟨v', w', hr, h2, h3, h4⟩ := run_append4 82 o.type Try.underlying82 hown hg hb hbase (cap := cap)
    unfold Oper.wp execOp
    simp only [ho, resolve, invoke, builtin, Sem.run_bind, Sem.run_pure, Result.andThen_ok, List.map_toArray, List.map_cons, List.map_nil, hs, hx, hr]
    exact hK _ _ (h v' w' h2 h3 h4)
/-- where the inner loop stands -/
structure Jn (w wx : World) (nb : Nat) (u : Value) (x : R4) (zs : List J4) : Prop where
  below : Below w.heap.size w wx
  own : OwnJ wx w.heap.size u zs
  blk : wx.heap[nb]? = some (.cells #[.int .i64 x.k, .string x.s, .int .u64 (x.b : Int), .int .u64 (x.p : Int)] 30 (0, 0))
  ne : u.ownBlock ≠ some nb
theorem Jn.c2 {w wx : World} {nb : Nat} {u : Value} {x : R4} {zs : List J4} (h : Jn w wx nb u x zs) : wx.cell? ⟨nb, 2, none⟩ = some (.int .u64 (x.b : Int)) := by rw [cell_of_row _ _ _ _ _ _ h.blk]; rfl
theorem Jn.next {w wx w2 : World} {nb : Nat} {u u2 : Value} {x : R4} {zs ys : List J4} {ob : Obj} (h : Jn w wx nb u x zs) (ho : OwnJ w2 w.heap.size u2 ys) (hg : (wx.alloc ob).grownBy w2 u.ownBlock) (hl : u2.ownBlock = u.ownBlock ∨ u2.ownBlock = some (wx.alloc ob).heap.size) : Jn w w2 nb u2 x ys := by
  have hlt := (Array.getElem?_eq_some_iff.1 h.blk).1
  have hb : (wx.alloc ob).heap[nb]? = wx.heap[nb]? := ((Below.refl wx.heap.size wx).alloc (Nat.le_refl _) ob).block nb hlt
  refine ⟨?_, ho, ?_, ?_⟩
  · exact (h.below.alloc h.below.size ob).grown hg (by simp; exact Nat.le_succ_of_le h.below.size) (fun k hk => (h.own.lt k hk).1)
  · rw [hg.block nb (by simp; omega) (fun e => h.ne e.symm), hb]
    exact h.blk
  · rcases hl with e | e
    · rw [e]; exact h.ne
    · rw [e]
      intro e2
      cases e2
      simp at hlt
      omega
set_option maxRecDepth 100000 in
set_option maxHeartbeats 4000000 in
theorem jobs_any {w : World} {v : Value} {xs : List R4} {m : Nat} (h : Rn w v xs) (hm : m ≤ 65536) (hx : ∀ r ∈ xs, r.b ≤ 65536 ∧ 1 ≤ r.p ∧ r.p ≤ 65536 ∧ m % r.p = 0) (hc : (allJ m 0 xs).length ≤ 65536)
    (HSort : Hid (∀ (W : World) (base : Nat) (u : Value) (zs : List J4), OwnJ W base u zs → zs.length ≤ 65536 → Calls Try.prog 40 #[u, .func (.func 41) #[] #[]] W fun e w' => e = .returned (.tuple #[]) ∧ ∃ ys, OwnJ w' base u ys ∧ ys.Perm zs ∧ ys.Pairwise (fun x y => x.r ≤ y.r) ∧ Below base W w')) :
    Calls Try.prog 37 #[.int .i64 (m : Int), v] w fun e w' => ∃ u js, e = .returned u ∧ OwnJ w' w.heap.size u js ∧ js.Perm (allJ m 0 xs) ∧ js.Pairwise (fun x y => x.r ≤ y.r) ∧ Below w.heap.size w w' := by
  have HR := Lib.hid h
  obtain ⟨ao, cap, rfl, h1, h2, h3, _⟩ := h
  unfold maxLen at h2
  obtain ⟨n, hn⟩ : ∃ n, xs.length = n := ⟨_, rfl⟩
  have HN := Lib.hid hn
  have HM : Hid (m ≤ 65536 ∧ (allJ m 0 xs).length ≤ 65536 ∧ ∀ r ∈ xs, r.b ≤ 65536 ∧ 1 ≤ r.p ∧ r.p ≤ 65536 ∧ m % r.p = 0) := ⟨hm, hc, hx⟩
  rw [hn] at h1 ⊢
  have HO0 : Hid (OwnJ w w.heap.size (.slice none 0 0) (allJ m 0 (xs.take 0))) := by
    rw [List.take_zero]
    exact OwnJ.nil _ _
  clear hn h3 hx hc hm
  go_enter Try.func37, Try.ntmps37
  go_wp2_with fail
  go_loopw [5, 12] (fun av iv wr => ∃ i : Nat, i ≤ n ∧ iv = .int .i64 (i : Int) ∧ Hid (Below w.heap.size w wr) ∧ Hid (OwnJ wr w.heap.size av (allJ m 0 (xs.take i)))) (fun _ iv _ => n - (intOf iv).toNat)
  case atStart => exact ⟨0, by omega, rfl, Below.refl _ _, HO0⟩
  case round =>
    clear HO0
    obtain ⟨i, hi, rfl, HB, HO⟩ := hrel
    by_cases hin : i < n
    · have hix : i < xs.length := by rw [HN.out]; exact hin
      have ji : (i : Int) < (n : Int) := by omega
      have hw1 : IntKind.i64.wrap ((i : Int) + 1) = ((i + 1 : Nat) : Int) := by rw [IntKind.wrap_i64]; omega
      obtain ⟨_, _, e', _, _, _, hc⟩ := HR.out.below HB.out
      simp only [Value.slice.injEq] at e'
      obtain ⟨rfl, _, rfl⟩ := e'
      obtain ⟨b, of, rfl, c0, c1, c2, c3⟩ := hc i hix
      have HT := Lib.hid (allJ_next m xs i hix)
      have HL : Hid ((allJ m 0 (xs.take i)).length + m / xs[i].p ≤ 65536) := by
        have h6 := allJ_take m xs (i + 1)
        rw [HT.out, List.length_append, jobsI_length] at h6
        have h8 := HM.out.2.1
        show _ ≤ _
        omega
      have HX : Hid (xs[i].b ≤ 65536 ∧ 1 ≤ xs[i].p ∧ xs[i].p ≤ 65536 ∧ m % xs[i].p = 0) := HM.out.2.2 _ (List.getElem_mem _)
      clear hc
      generalize xs[i] = x at *
      obtain ⟨xk, x_s, xb, xp⟩ := x
      simp only at c0 c1 c2 c3 HX HL
      have hwb : IntKind.i64.wrap (xb : Int) = (xb : Int) := by have := HX.out; rw [IntKind.wrap_i64]; omega
      have hwp : IntKind.i64.wrap (xp : Int) = (xp : Int) := by have := HX.out; rw [IntKind.wrap_i64]; omega
      have HJ0 : Hid (Jn w (wr.alloc (.cells #[.int .i64 xk, .string x_s, .int .u64 (xb : Int), .int .u64 (xp : Int)] 30)) wr.heap.size u5 ⟨xk, x_s, xb, xp⟩ (allJ m 0 (xs.take i) ++ jobsI m i ⟨xk, x_s, xb, xp⟩ 0)) := by
        refine ⟨HB.out.alloc HB.out.size _, ?_, Array.getElem?_push_size (xs := wr.heap), ?_⟩
        · rw [show jobsI m i ⟨xk, x_s, xb, xp⟩ 0 = [] from rfl, List.append_nil]
          exact HO.out.below ((Below.refl _ _).alloc (Nat.le_refl _) _)
        · intro e
          have := (HO.out.lt _ e).2
          omega
      obtain ⟨D, hD⟩ : ∃ D, m / xp = D := ⟨_, rfl⟩
      have HD : Hid (m = D * xp) := by
        have h5 := HX.out
        have h6 := Nat.div_add_mod m xp
        show m = D * xp
        rw [← hD, Nat.mul_comm]
        omega
      rw [hD] at HL HT
      obtain ⟨nb, hnb⟩ : ∃ nb, nb = wr.heap.size := ⟨_, rfl⟩
      have HNB := Lib.hid hnb
      clear hD hnb
      go_wp2_with fail
      go_loopw [5, 9] (fun av tv wx => ∃ q : Nat, q ≤ D ∧ tv = .int .i64 ((q * xp : Nat) : Int) ∧ Hid (Jn w wx nb av ⟨xk, x_s, xb, xp⟩ (allJ m 0 (xs.take i) ++ jobsI m i ⟨xk, x_s, xb, xp⟩ q))) (fun _ tv _ => m - (intOf tv).toNat)
      case atStart => exact ⟨0, by omega, by rw [Nat.zero_mul]; rfl, by rw [HNB.out]; exact HJ0⟩
      case round =>
        clear HJ0
        obtain ⟨q, hq, rfl, HJ⟩ := hrel
        obtain ⟨T, hT⟩ : ∃ T, q * xp = T := ⟨_, rfl⟩
        have HTT := Lib.hid hT
        by_cases hqd : q < D
        · have jt : T < m := by
            have h5 := HX.out
            rw [← hT, HD.out]
            exact Nat.mul_lt_mul_of_pos_right hqd (by omega)
          rw [hT]
          have jt2 : (T : Int) < (m : Int) := by omega
          have hw2 : IntKind.i64.wrap ((T : Int) + (xp : Int)) = (T : Int) + (xp : Int) := by have h5 := HX.out; have h6 := HM.out.1; rw [IntKind.wrap_i64]; omega
          have y2 := HJ.out.c2
          simp only at y2
          rw [HNB.out] at y2
          have HLn : Hid ((allJ m 0 (xs.take i) ++ jobsI m i ⟨xk, x_s, xb, xp⟩ q).length ≤ 1048576) := by
            have h5 := HL.out
            show _ ≤ _
            rw [List.length_append, jobsI_length]
            omega
          have HB4 : Hid (B4 (wr.alloc (.cells #[.int .i64 (i : Int), .int .i64 (T : Int), .int .i64 ((T : Int) + (xp : Int)), .int .i64 (xb : Int)] 86)) wr.heap.size ⟨(i : Int), (T : Int), (T : Int) + (xp : Int), (xb : Int)⟩) := Array.getElem?_push_size (xs := wr.heap)
          have HOA : Hid (OwnJ (wr.alloc (.cells #[.int .i64 (i : Int), .int .i64 (T : Int), .int .i64 ((T : Int) + (xp : Int)), .int .i64 (xb : Int)] 86)) w.heap.size u5 (allJ m 0 (xs.take i) ++ jobsI m i ⟨xk, x_s, xb, xp⟩ q)) := HJ.out.own.below ((Below.refl _ _).alloc (Nat.le_refl _) _)
          have HNx : Hid (∀ u2 w2, OwnJ w2 w.heap.size u2 (allJ m 0 (xs.take i) ++ jobsI m i ⟨xk, x_s, xb, xp⟩ q ++ [⟨(i : Int), (T : Int), (T : Int) + (xp : Int), (xb : Int)⟩]) → (wr.alloc (.cells #[.int .i64 (i : Int), .int .i64 (T : Int), .int .i64 ((T : Int) + (xp : Int)), .int .i64 (xb : Int)] 86)).grownBy w2 u5.ownBlock → (u2.ownBlock = u5.ownBlock ∨ u2.ownBlock = some (wr.alloc (.cells #[.int .i64 (i : Int), .int .i64 (T : Int), .int .i64 ((T : Int) + (xp : Int)), .int .i64 (xb : Int)] 86)).heap.size) → Jn w w2 nb u2 ⟨xk, x_s, xb, xp⟩ (allJ m 0 (xs.take i) ++ jobsI m i ⟨xk, x_s, xb, xp⟩ (q + 1))) := by
            intro u2 w2 h1 h2 h3
            have h4 := HJ.out.next h1 h2 h3
            rw [List.append_assoc] at h4
            have h5 := jobsI_next m i ⟨xk, x_s, xb, xp⟩ q
            simp only at h5
            rw [HTT.out, Int.natCast_add] at h5
            rw [h5]
            exact h4
          have HBs : Hid (w.heap.size ≤ wr.heap.size) := HJ.out.below.size
          clear hT
          go_wp2_with (at_builtin; refine wpList_append4 rfl (.tmp 26) (.tmp 36) rfl HOA.out rfl rfl HB4.out HLn.out (Nat.le_trans HBs.out (by simp)) ?_; intro u2 w2 HO2 HG2 HL2; have HJ2 := Lib.hid (HNx.out _ _ HO2.out HG2.out HL2.out); clear HO2 HG2 HL2 HNx HB4 HOA)
          go_roundw
          case rel => exact ⟨q + 1, by omega, by rw [Nat.succ_mul, HTT.out, Int.natCast_add], HJ2⟩
          case measure => have h5 := HX.out; simp [intOf]; omega
        · obtain rfl : q = D := by omega
          have jt : T = m := by rw [← hT, HD.out]
          rw [hT]
          have jt2 : ¬ (T : Int) < (m : Int) := by omega
          have HJ3 : Hid (OwnJ wr w.heap.size u5 (allJ m 0 (xs.take (i + 1)))) := by
            have h5 := HJ.out.own
            rw [← HT.out] at h5
            exact h5
          have HB3 := Lib.hid HJ.out.below
          clear hT
          go_wp2_with fail
          go_roundw
          case rel => exact ⟨i + 1, by omega, rfl, HB3, HJ3⟩
          case measure => simp [intOf]; omega
    · obtain rfl : i = n := by omega
      have et : xs.take i = xs := List.take_of_length_le (by rw [HN.out]; exact Nat.le_refl _)
      rw [et] at HO
      have HC := Lib.hid (HSort.out wr w.heap.size u5 _ HO.out HM.out.2.1)
      clear et
      go_wp2_with fail
      refine HC.out.mono ?_
      rintro e w2 ⟨rfl, js, ho, hp, hs, hb⟩
      have HF : Hid (OwnJ w2 w.heap.size u5 js ∧ js.Perm (allJ m 0 xs) ∧ js.Pairwise (fun x y => x.r ≤ y.r) ∧ Below w.heap.size w w2) := ⟨ho, hp, hs, HB.out.trans hb⟩
      clear ho hp hs hb HC
      go_wp2_with fail
      go_ret
      exact ⟨_, js, rfl, HF.out.1, HF.out.2.1, HF.out.2.2.1, HF.out.2.2.2⟩
end Go.Proofs.Ytkhlkbgolonkkaa
