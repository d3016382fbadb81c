import Derived.Test.YtgjamnhepbblhaaPk08
import Derived.Test.YtgjamnhepbblhaaRows
import Derived.Deep.Slices
import Derived.SizedLaws
import Derived.WalkKit
import Derived.ProofKit
import Derived.OpenShut
import Derived.ShutString
import Derived.ChangeOld
import Derived.Below
/- Pages: rows that come in; refusal of any rows. Own work. -/
namespace Go.Proofs.Ytgjamnhepbblhaa
open Go.RowKit Wk
set_option linter.unusedVariables false
def L6.ok (x : L6) : Prop := x.v ≤ 18446744073709551615 ∧ x.p ≤ 18446744073709551615 ∧ -9223372036854775808 ≤ x.n ∧ x.n ≤ 9223372036854775807
/-- rows that are read, wherever they lie -/
def Lv (w : World) (v : Value) (xs : List L6) : Prop :=
  ∃ ao cap, v = .slice ao xs.length cap ∧ xs.length ≤ cap ∧ cap ≤ maxLen ∧ (∀ x ∈ xs, L6.ok x) ∧ ∀ i (h : i < xs.length), ∃ b o, ao = some ⟨b, o, none⟩ ∧ w.cell? ⟨b, o + i * 6, none⟩ = some (.int .u64 (xs[i].v : Int)) ∧ w.cell? ⟨b, o + i * 6 + 1, none⟩ = some (.int .u64 (xs[i].p : Int)) ∧ w.cell? ⟨b, o + i * 6 + 2, none⟩ = some (.int .i64 xs[i].n) ∧ w.cell? ⟨b, o + i * 6 + 3, none⟩ = some (.bool xs[i].big) ∧ w.cell? ⟨b, o + i * 6 + 4, none⟩ = some (.bool xs[i].wr) ∧ w.cell? ⟨b, o + i * 6 + 5, none⟩ = some (.bool xs[i].ex)
theorem Lv.below {w w' : World} {v : Value} {xs : List L6} (h : Lv w v xs) (hb : Below w.heap.size w w') : Lv w' v xs := by
  obtain ⟨ao, cap, rfl, h1, h2, h4, h3⟩ := h
  refine ⟨ao, cap, rfl, h1, h2, h4, fun i hi => ?_⟩
  obtain ⟨b, o, rfl, c0, c1, c2, c3, c4, c5⟩ := h3 i hi
  have hl := World.block_lt_of_cell? w _ c0
  exact ⟨b, o, rfl, (hb.cell (p := ⟨b, o + i * 6, none⟩) hl).trans c0, (hb.cell (p := ⟨b, o + i * 6 + 1, none⟩) hl).trans c1, (hb.cell (p := ⟨b, o + i * 6 + 2, none⟩) hl).trans c2, (hb.cell (p := ⟨b, o + i * 6 + 3, none⟩) hl).trans c3, (hb.cell (p := ⟨b, o + i * 6 + 4, none⟩) hl).trans c4, (hb.cell (p := ⟨b, o + i * 6 + 5, none⟩) hl).trans c5⟩
theorem aloneF_zero {x : L6} (h : aloneF x = 0) : 1 ≤ x.n ∧ x.v % unitF x = 0 ∧ x.p % unitF x = 0 ∧ x.v + x.n.toNat * 4096 ≤ 549755813888 ∧ x.p + x.n.toNat * 4096 ≤ 4294967296 ∧ (x.big = true → x.n % 512 = 0) := by
  unfold aloneF at h
  by_cases h1 : x.n < 1 ∨ (x.big = true ∧ x.n % 512 ≠ 0)
  · rw [if_pos h1] at h
    cases h
  rw [if_neg h1] at h
  by_cases h2 : x.v % unitF x ≠ 0 ∨ x.p % unitF x ≠ 0
  · rw [if_pos h2] at h
    cases h
  rw [if_neg h2] at h
  cases h3 : winB x.v x.n.toNat 549755813888 with
  | false =>
    rw [if_pos h3] at h
    cases h
  | true =>
    rw [if_neg (by rw [h3]; decide)] at h
    cases h4 : winB x.p x.n.toNat 4294967296 with
    | false =>
      rw [if_pos h4] at h
      cases h
    | true =>
      unfold winB at h3 h4
      have h3 := of_decide_eq_true h3
      have h4 := of_decide_eq_true h4
      refine ⟨by omega, by omega, by omega, h3, h4, fun hb => ?_⟩
      by_cases h5 : x.n % 512 = 0
      · exact h5
      · exact absurd (Or.inr ⟨hb, h5⟩) h1
/-- why a row may not be, behind what ends at t -/
def refuF : Nat → List L6 → Int
  | _, [] => 0
  | t, x :: xs => if aloneF x ≠ 0 then aloneF x else if x.v < t then 120 else refuF (x.v + x.n.toNat * 4096) xs
set_option maxRecDepth 100000 in
set_option maxHeartbeats 4000000 in
theorem prefusal_any {w : World} {v : Value} {xs : List L6} (h : Lv w v xs) : Calls Try.prog 31 #[v] w fun e w' => e = .returned (.int .i64 (refuF 0 xs)) ∧ Below w.heap.size w w' := by
  have HR := Lib.hid h
  obtain ⟨ao, cap, rfl, h1, h2, h3, _⟩ := h
  unfold maxLen at h2
  obtain ⟨n, hn⟩ : ∃ n, xs.length = n := ⟨_, rfl⟩
  have HN := Lib.hid hn
  have HX : Hid (∀ x ∈ xs, L6.ok x) := h3
  rw [hn] at h1 ⊢
  obtain ⟨RV, hRV⟩ : ∃ R, refuF 0 xs = R := ⟨_, rfl⟩
  rw [hRV]
  have HR0 : Hid (refuF 0 (xs.drop 0) = RV) := hRV
  have HB0 : Hid (Below w.heap.size w w) := Below.refl _ _
  clear hn h3 hRV
  go_enter Try.func31, Try.ntmps31
  go_wp2_with fail
  go_loopw [3, 9] (fun tv iv wr => ∃ (i t : Nat), i ≤ n ∧ iv = .int .i64 (i : Int) ∧ tv = .int .u64 (t : Int) ∧ Hid (refuF t (xs.drop i) = RV) ∧ Hid (Below w.heap.size w wr)) (fun _ iv _ => n - (intOf iv).toNat)
  case atStart => exact ⟨0, 0, by omega, rfl, rfl, HR0, HB0⟩
  case round =>
    clear HB0 HR0
    obtain ⟨i, t, hi, rfl, rfl, HE, HB⟩ := hrel
    by_cases hin : i < n
    · have hix : i < xs.length := by rw [HN.out]; exact hin
      have ji : (i : Int) < (n : Int) := by omega
      have hw1 : IntKind.i64.wrap ((i : Int) + 1) = ((i + 1 : Nat) : Int) := by rw [IntKind.wrap_i64]; omega
      obtain ⟨_, _, e', _, _, _, hc⟩ := HR.out.below HB.out
      simp only [Value.slice.injEq] at e'
      obtain ⟨rfl, _, rfl⟩ := e'
      obtain ⟨b, of, rfl, c0, c1, c2, c3, c4, c5⟩ := hc i hix
      have HK : Hid (L6.ok xs[i]) := HX.out xs[i] (List.getElem_mem _)
      have HD : Hid (refuF t (xs[i] :: xs.drop (i + 1)) = RV) := by
        have := HE.out
        rw [List.drop_eq_getElem_cons hix] at this
        exact this
      clear hc HE
      generalize xs[i] = x at *
      have HA : Hid (∀ W, Calls Try.prog 38 #[.agg #[.int .u64 (x.v : Int), .int .u64 (x.p : Int), .int .i64 x.n, .bool x.big, .bool x.wr, .bool x.ex]] W fun e w' => e = .returned (.int .i64 (aloneF x)) ∧ Below W.heap.size W w') := fun W => alone_any HK.out.1 HK.out.2.1 HK.out.2.2.2 W
      have HL := Lib.hid (LfAt.new' wr x)
      have HBl := Lib.hid (lf_below' wr x)
      unfold refuF at HD
      go_wp2_with fail
      refine (HA.out _).mono ?_
      rintro e w5 ⟨rfl, hb5⟩
      have HL5 := Lib.hid (HL.out.below hb5)
      have HB5 : Hid (Below w.heap.size w w5) := HB.out.trans ((HBl.out.trans (hb5.mono HBl.out.size)).mono HB.out.size)
      clear hb5 HL HBl HB HA c0 c1 c2 c3 c4 c5
      obtain ⟨er, her⟩ : ∃ e, aloneF x = e := ⟨_, rfl⟩
      have HZ := Lib.hid her
      rw [her] at HD ⊢
      clear her
      by_cases h5 : er = 0
      · subst h5
        obtain ⟨z1, z2, z3, z4, z5, z6⟩ := aloneF_zero HZ.out
        obtain ⟨xv, xp, xn, xb, xw, xe⟩ := x
        simp only at z1 z4 HD HL5 ⊢
        obtain ⟨m, rfl⟩ : ∃ m : Nat, xn = (m : Int) := ⟨xn.toNat, by omega⟩
        have z4 : xv + m * 4096 ≤ 549755813888 := z4
        have HEn : Hid (∀ W, Calls Try.prog 39 #[.agg #[.int .u64 (xv : Int), .int .u64 (xp : Int), .int .i64 (m : Int), .bool xb, .bool xw, .bool xe]] W fun e w' => e = .returned (.int .u64 ((xv + m * 4096 : Nat) : Int)) ∧ Below W.heap.size W w') := fun W => end_any (by omega) W
        obtain ⟨c0, c1, c2, c3, c4, c5⟩ := HL5.out.cells
        simp only at c0 c1 c2 c3 c4 c5
        rw [show ((m : Int)).toNat = m from rfl] at HD
        obtain ⟨s, hs⟩ : ∃ s, xv + m * 4096 = s := ⟨_, rfl⟩
        rw [hs] at HEn HD
        clear z1 z2 z3 z4 z5 z6 hs HZ HK
        by_cases h6 : xv < t
        · have j6 : (xv : Int) < (t : Int) := by omega
          have HF : Hid ((120 : Int) = RV) := by
            have := HD.out
            simp only [ne_eq, not_true_eq_false, if_false, h6, if_true] at this
            exact this
          clear HD
          go_wp2_with fail
          go_ret
          exact ⟨by rw [← HF.out]; rfl, HB5.out⟩
        · have j6 : ¬ (xv : Int) < (t : Int) := by omega
          have HF : Hid (refuF s (xs.drop (i + 1)) = RV) := by
            have := HD.out
            simp only [ne_eq, not_true_eq_false, if_false, h6] at this
            exact this
          clear HD
          go_wp2_with fail
          refine (HEn.out _).mono ?_
          rintro e w6 ⟨rfl, hb6⟩
          have HB6 : Hid (Below w.heap.size w w6) := HB5.out.trans (hb6.mono HB5.out.size)
          clear hb6 HEn HL5 c0 c1 c2 c3 c4 c5
          go_wp2_with fail
          go_roundw
          case rel => exact ⟨i + 1, s, by omega, rfl, rfl, HF, HB6⟩
          case measure => simp [intOf]; omega
      · have HF : Hid (er = RV) := by
          have := HD.out
          simp only [ne_eq, h5, not_false_eq_true, if_true] at this
          exact this
        clear HD
        go_wp2_with fail
        go_ret
        exact ⟨by rw [← HF.out]; rfl, HB5.out⟩
    · obtain rfl : i = n := by omega
      have HF : Hid ((0 : Int) = RV) := by
        have := HE.out
        rw [List.drop_eq_nil_of_le (by rw [HN.out]; exact Nat.le_refl _)] at this
        exact this
      go_wp2_with fail
      go_ret
      exact ⟨by rw [← HF.out]; rfl, HB.out⟩
end Go.Proofs.Ytgjamnhepbblhaa
/- Rows of leaves that come in, in memory. Own work. -/
namespace Go.Proofs.Ytgjamnhepbblhaa
open Go.RowKit Go.ChangeShapes Go.WideShapes
theorem six_list {α : Type} {cs : List α} {x0 x1 x2 x3 x4 x5 : α} (h : cs.length = 6) (h0 : (cs.drop 0).take 1 = [x0]) (h1 : (cs.drop 1).take 1 = [x1]) (h2 : (cs.drop 2).take 1 = [x2]) (h3 : (cs.drop 3).take 1 = [x3]) (h4 : (cs.drop 4).take 1 = [x4]) (h5 : (cs.drop 5).take 1 = [x5]) : cs = [x0, x1, x2, x3, x4, x5] := by
  match cs, h with
  | [a, b, c, d, e, f], _ => simp_all
theorem u64_nat {n : Int} (h : (Lit.int .u64 n).wf = true) : ∃ m : Nat, n = (m : Int) ∧ m ≤ 18446744073709551615 := by
  simp [Lit.wf] at h
  have h1 : 0 ≤ n := h.1
  have h2 : n ≤ 18446744073709551615 := h.2
  exact ⟨n.toNat, by omega, by omega⟩
theorem i64_in {n : Int} (h : (Lit.int .i64 n).wf = true) : -9223372036854775808 ≤ n ∧ n ≤ 9223372036854775807 := by
  simp [Lit.wf] at h
  have h1 : -9223372036854775808 ≤ n := h.1
  have h2 : n ≤ 9223372036854775807 := h.2
  exact ⟨h1, h2⟩
theorem some_in {α : Type} {xs : List α} {n i : Nat} (h : xs.length = n) (hi : i < n) : ∃ y, xs[i]? = some y := ⟨xs[i], List.getElem?_eq_getElem (by omega)⟩
section
variable {H : Type} {enc : TypeId × Value → H} {W : World} {base : Nat} {held : Bool}
theorem leaf1_opened {fuel : Nat} {cs : List Value} {x : DataW H × List MemPlace} (h : DataW.trod enc Try.prog W base (fun _ => true) held fuel 34 cs = some x) :
    ∃ y : L6, cs = [.int .u64 (y.v : Int), .int .u64 (y.p : Int), .int .i64 y.n, .bool y.big, .bool y.wr, .bool y.ex] ∧ L6.ok y := by
  obtain ⟨xs, n, _, _, hl, hlen, hf⟩ := DataW.trod_struct Try.underlying34 h
  have hlen6 : xs.length = 6 := hlen
  obtain ⟨y0, e0⟩ := some_in hlen6 (show 0 < 6 by decide)
  obtain ⟨y1, e1⟩ := some_in hlen6 (show 1 < 6 by decide)
  obtain ⟨y2, e2⟩ := some_in hlen6 (show 2 < 6 by decide)
  obtain ⟨y3, e3⟩ := some_in hlen6 (show 3 < 6 by decide)
  obtain ⟨y4, e4⟩ := some_in hlen6 (show 4 < 6 by decide)
  obtain ⟨y5, e5⟩ := some_in hlen6 (show 5 < 6 by decide)
  obtain ⟨v, hv, _, wv⟩ := DataW.trod_int Try.underlying23 ((hf 0 _ rfl).trans e0)
  obtain ⟨p, hp, _, wp⟩ := DataW.trod_int Try.underlying23 ((hf 1 _ rfl).trans e1)
  obtain ⟨k, hk, _, wk⟩ := DataW.trod_int Try.underlying3 ((hf 2 _ rfl).trans e2)
  obtain ⟨b3, h3, _⟩ := DataW.trod_bool Try.underlying4 ((hf 3 _ rfl).trans e3)
  obtain ⟨b4, h4, _⟩ := DataW.trod_bool Try.underlying4 ((hf 4 _ rfl).trans e4)
  obtain ⟨b5, h5, _⟩ := DataW.trod_bool Try.underlying4 ((hf 5 _ rfl).trans e5)
  have c3 : Try.prog.cellsOf 3 = 1 := by kernel_rfl
  have c9 : Try.prog.cellsOf 4 = 1 := by kernel_rfl
  have c6 : Try.prog.cellsOf 23 = 1 := by kernel_rfl
  have cS : Try.prog.cellsOf 34 = 6 := by kernel_rfl
  change List.take (Try.prog.cellsOf 23) (List.drop 0 cs) = _ at hv
  change List.take (Try.prog.cellsOf 23) (List.drop 1 cs) = _ at hp
  change List.take (Try.prog.cellsOf 3) (List.drop 2 cs) = _ at hk
  change List.take (Try.prog.cellsOf 4) (List.drop 3 cs) = _ at h3
  change List.take (Try.prog.cellsOf 4) (List.drop 4 cs) = _ at h4
  change List.take (Try.prog.cellsOf 4) (List.drop 5 cs) = _ at h5
  rw [c6] at hv hp
  rw [c3] at hk
  rw [c9] at h3 h4 h5
  obtain ⟨vv, rfl, va⟩ := u64_nat wv
  obtain ⟨pp, rfl, pa⟩ := u64_nat wp
  have ka := i64_in wk
  exact ⟨⟨vv, pp, k, b3, b4, b5⟩, six_list (by rw [hl, cS]) hv hp hk h3 h4 h5, va, pa, ka.1, ka.2⟩
theorem leaves_opened {fuel : Nat} {cs : List Value} {x : DataW H × List MemPlace} (h : DataW.trod enc Try.prog W base (fun _ => true) held fuel 22 cs = some x) : ∃ v xs, cs = [v] ∧ Lv W v xs := by
  rcases Go.Deep.open_slice Try.underlying22 h with ⟨rfl, _⟩ | ⟨a, len, cap, m, n, D, Pl, rfl, _, hl, hm, hmm, rfl, hx⟩
  · exact ⟨_, [], rfl, none, 0, rfl, Nat.le_refl _, Nat.zero_le _, fun _ h => (by cases h), fun i hi => by simp at hi⟩
  · have cS : Try.prog.cellsOf 34 = 6 := by kernel_rfl
    rw [cS] at hx
    have hmc : m = cap := by simpa using hmm
    haveI : Inhabited L6 := ⟨⟨0, 0, 0, false, false, false⟩⟩
    obtain ⟨F, hF⟩ := Go.Deep.choose_lt (α := L6) (n := len) (p := fun i y => L6.ok y ∧ ∀ j v, ([.int .u64 (y.v : Int), .int .u64 (y.p : Int), .int .i64 y.n, .bool y.big, .bool y.wr, .bool y.ex] : List Value)[j]? = some v → W.cell? ((a.add (i * 6)).add j) = some v) (fun i hi => by
      obtain ⟨cs', h1, h2⟩ := hx i (by omega)
      obtain ⟨y, rfl, hb⟩ := leaf1_opened h2
      obtain ⟨_, _, hc⟩ := World.cells?_some h1
      refine ⟨y, hb, fun j v hj => ?_⟩
      rw [hc j (by have := (List.getElem?_eq_some_iff.1 hj).1; simpa using this)]
      exact hj)
    refine ⟨_, (List.range len).map F, rfl, some a, cap, by simp, by simpa using hl, hm, fun y hy => ?_, fun i hi => ?_⟩
    · obtain ⟨i, hi, rfl⟩ := List.mem_map.1 hy
      exact (hF i (by simpa using hi)).1
    · have hi' : i < len := by simpa using hi
      obtain ⟨_, hc⟩ := hF i hi'
      have hget : ((List.range len).map F)[i] = F i := by simp
      rw [hget]
      obtain ⟨b, o, sp⟩ := a
      cases sp with
      | some q => exact absurd (World.cell?_spot ((hF 0 (by omega)).2 0 _ rfl)) (by simp [Addr.add])
      | none =>
        simp only [Go.WideShapes.add_plain] at hc
        exact ⟨b, o, rfl, hc 0 _ rfl, hc 1 _ rfl, hc 2 _ rfl, hc 3 _ rfl, hc 4 _ rfl, hc 5 _ rfl⟩
end
end Go.Proofs.Ytgjamnhepbblhaa
