/- Lanes: container/heap's Push and Pop over the queue. Own work. -/
import Derived.Test.YtkhlkbgolonkkaaLnPush
import Derived.Test.YtkhlkbgolonkkaaLnDown
namespace Go.Proofs.Ytkhlkbgolonkkaa
open Go.RowKit
set_option linter.unusedVariables false
set_option maxRecDepth 100000 in
set_option maxHeartbeats 1000000 in
theorem hpush_any {w : World} {k base : Nat} {v : Value} {xs : List J4} {x : J4} (h : Hq w k base v xs) (hb : base ≤ w.heap.size) (hx : xs.length ≤ 1048576) :
    Calls Try.prog 38 #[HV k, JobV x] w fun e w' => e = .returned (.tuple #[]) ∧ ∃ v', Hq w' k base v' (upF (xs ++ [x]) xs.length) ∧ Kq k v w w' ∧ Fr w v v' := by
  have hpu : ∀ (W : World) (p : Option Addr), (method 241 88 (.pointer p) "Push").run Try.prog W = .ok (85, .pointer p) W := q_push
  have HP := Lib.hid (qpush_any (x := x) h hb hx)
  have HU : Hid (∀ v' W, Hq W k base v' (xs ++ [x]) → base ≤ W.heap.size → Calls Try.prog 43 #[HV k, .int .i64 (xs.length : Int)] W fun e w' => e = .returned (.tuple #[]) ∧ Hq w' k base v' (upF (xs ++ [x]) xs.length) ∧ Kq k v' W w') := fun v' W h1 h2 => up_any h1 h2 (by simp) (by simp; omega)
  obtain ⟨n, hn⟩ : ∃ n, xs.length = n := ⟨_, rfl⟩
  rw [hn] at HU hx ⊢
  have HN := Lib.hid hn
  have hj : IntKind.i64.wrap ((n : Int) + 1 - 1) = (n : Int) := by rw [IntKind.wrap_i64]; omega
  have HB := Lib.hid hb
  clear h hn hb
  unfold HV at HU ⊢
  go_enter Try.func38, Try.ntmps38
  go_wp2_with fail
  refine HP.out.mono ?_
  rintro e w1 ⟨rfl, v1, hq, hbl, hfr⟩
  obtain ⟨a1, c1, hv1⟩ := hq.own.form
  rw [List.length_append, List.length_singleton, HN.out] at hv1
  subst hv1
  have x1 := hq.cell
  have hlen : ∀ W : World, W.cell? ⟨k, 0, none⟩ = some (.slice a1 (n + 1) c1) → (method 241 88 (.pointer (some ⟨k, 0, none⟩)) "Len").run Try.prog W = .ok (81, .slice a1 (n + 1) c1) W := fun W hW => q_len hW
  have HQ := Lib.hid hq
  have HBl := Lib.hid hbl
  have HFr := Lib.hid hfr
  clear hq hbl hfr HP
  go_wp2_with fail
  refine (qlen_any a1 (n + 1) c1 w1).mono ?_
  rintro e w2 ⟨rfl, hw2⟩
  subst hw2
  have HC := Lib.hid (HU.out _ _ HQ.out (Nat.le_trans HB.out HBl.out.size))
  clear HU
  go_wp2_with fail
  refine HC.out.mono ?_
  rintro e w3 ⟨rfl, hq3, hb3⟩
  have HQ3 := Lib.hid hq3
  have HB3 := Lib.hid hb3
  clear hq3 hb3 HC
  go_wp2_with fail
  go_end0
  exact ⟨rfl, _, HQ3.out, HBl.out.thenF HFr.out HB3.out, HFr.out⟩
/-- what container/heap's Pop leaves in the queue's row ahead of the queue's own Pop -/
def popF (xs : List J4) : List J4 := downF (swapT xs 0 (xs.length - 1)) 0 (xs.length - 1)
theorem downF_length (xs : List J4) (i n : Nat) : (downF xs i n).length = xs.length := by
  fun_induction downF xs i n with
  | case1 => rfl
  | case2 xs i h h2 ih => rw [ih, swapT_length]
  | case3 => rfl
set_option maxRecDepth 100000 in
set_option maxHeartbeats 1000000 in
theorem hpop_any {w : World} {k base : Nat} {v : Value} {xs : List J4} (h : Hq w k base v xs) (hb : base ≤ w.heap.size) (hx0 : 0 < xs.length) (hx : xs.length ≤ 1048576) :
    Calls Try.prog 39 #[HV k] w fun e w' => ∃ u v', e = .returned u ∧ Hq w' k base v' (popF xs).dropLast ∧ Kq k v w w' ∧ v'.ownBlock = v.ownBlock := by
  have hpo : ∀ (W : World) (p : Option Addr), (method 241 88 (.pointer p) "Pop").run Try.prog W = .ok (84, .pointer p) W := q_pop
  obtain ⟨n, hn⟩ : ∃ n, xs.length = n + 1 := ⟨xs.length - 1, by omega⟩
  obtain ⟨a1, c1, hv⟩ := h.own.form
  rw [hn] at hv
  subst hv
  have x0 := h.cell
  have hlen : ∀ W : World, W.cell? ⟨k, 0, none⟩ = some (.slice a1 (n + 1) c1) → (method 241 88 (.pointer (some ⟨k, 0, none⟩)) "Len").run Try.prog W = .ok (81, .slice a1 (n + 1) c1) W := fun W hW => q_len hW
  have hswp : ∀ W : World, W.cell? ⟨k, 0, none⟩ = some (.slice a1 (n + 1) c1) → (method 241 88 (.pointer (some ⟨k, 0, none⟩)) "Swap").run Try.prog W = .ok (83, .slice a1 (n + 1) c1) W := fun W hW => q_swap hW
  have HSw : Hid (Calls Try.prog 83 #[.slice a1 (n + 1) c1, .int .i64 0, .int .i64 (n : Int)] w fun e w' => e = .returned (.tuple #[]) ∧ Hq w' k base (.slice a1 (n + 1) c1) (swapT xs 0 n) ∧ Kq k (.slice a1 (n + 1) c1) w w') := by
    have h7 := qswap_any (i := 0) (j := n) h.own (by omega) (by omega)
    rw [show ((0 : Nat) : Int) = 0 from rfl, swapT_eq] at h7
    refine h7.mono ?_
    rintro e w' ⟨rfl, ho, hk⟩
    exact ⟨rfl, h.to hk ho, h.keptq hk⟩
  have HDn : Hid (∀ W, Hq W k base (.slice a1 (n + 1) c1) (swapT xs 0 n) → base ≤ W.heap.size → Calls Try.prog 44 #[HV k, .int .i64 0, .int .i64 (n : Int)] W fun e w' => ∃ u, e = .returned u ∧ Hq w' k base (.slice a1 (n + 1) c1) (popF xs) ∧ Kq k (.slice a1 (n + 1) c1) W w') := fun W h1 h2 => by
    have h3 := down_any (i0 := 0) (n := n) h1 h2 (by rw [swapT_length]; omega) (by rw [swapT_length]; omega) (by rw [swapT_length]; omega)
    rw [show ((0 : Nat) : Int) = 0 from rfl] at h3
    rw [popF, hn, Nat.add_sub_cancel]
    exact h3
  have HPp : Hid (∀ W, Hq W k base (.slice a1 (n + 1) c1) (popF xs) → Calls Try.prog 84 #[.pointer (some ⟨k, 0, none⟩)] W fun e w' => ∃ u v', e = .returned u ∧ Hq w' k base v' (popF xs).dropLast ∧ Kq k (.slice a1 (n + 1) c1) W w' ∧ v'.ownBlock = (Value.slice a1 (n + 1) c1).ownBlock) := fun W h1 => by
    have hne : popF xs ≠ [] := by
      intro e
      have h9 : (popF xs).length = xs.length := by rw [popF, downF_length, swapT_length]
      rw [e] at h9
      simp at h9
      omega
    rw [← List.dropLast_concat_getLast hne] at h1
    refine (qpop_any h1).mono ?_
    rintro e w' ⟨rfl, v', h2, h3, h4⟩
    exact ⟨_, v', rfl, h2, h3, h4⟩
  have hj : IntKind.i64.wrap ((n : Int) + 1 - 1) = (n : Int) := by rw [IntKind.wrap_i64]; omega
  have hnb : n ≤ 1048576 := by omega
  have HB := Lib.hid hb
  clear h hb hn hx0 hx
  unfold HV at HDn ⊢
  go_enter Try.func39, Try.ntmps39
  go_wp2_with fail
  refine (qlen_any a1 (n + 1) c1 w).mono ?_
  rintro e w2 ⟨rfl, hw2⟩
  subst hw2
  go_wp2_with fail
  refine HSw.out.mono ?_
  rintro e w3 ⟨rfl, hq3, hb3⟩
  have HC := Lib.hid (HDn.out _ hq3 (Nat.le_trans HB.out hb3.size))
  have HB3 := Lib.hid hb3
  clear hq3 hb3 HSw HDn
  go_wp2_with fail
  refine HC.out.mono ?_
  rintro e w4 ⟨u, rfl, hq4, hb4⟩
  have HC4 := Lib.hid (HPp.out _ hq4)
  have HB4 := Lib.hid hb4
  clear hq4 hb4 HC HPp
  go_wp2_with fail
  refine HC4.out.mono ?_
  rintro e w5 ⟨u5, v5, rfl, hq5, hb5, hr5⟩
  have HQ5 := Lib.hid hq5
  have HB5 := Lib.hid hb5
  have HR5 := Lib.hid hr5
  clear hq5 hb5 hr5 HC4
  go_wp2_with fail
  go_ret
  exact ⟨_, v5, rfl, HQ5.out, (HB3.out.trans HB4.out).trans HB5.out, HR5.out⟩
end Go.Proofs.Ytkhlkbgolonkkaa
