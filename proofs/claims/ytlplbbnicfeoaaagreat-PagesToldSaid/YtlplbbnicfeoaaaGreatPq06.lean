import Derived.Test.YtlplbbnicfeoaaaGreatPq05
import Derived.Test.YtlplbbnicfeoaaaGreatRows
import Derived.Deep.Slices
import Derived.SizedLaws
import Derived.WalkKit
import Derived.ProofKit
import Derived.OpenShut
import Derived.ShutString
import Derived.ChangeOld
import Derived.Below
/- Pages: rows that come in; refusal of any rows. Own work. -/
namespace Go.Proofs.YtlplbbnicfeoaaaGreat
open Go.RowKit Wk
set_option linter.unusedVariables false
def L6.ok (x : L6) : Prop := x.v ≤ 18446744073709551615 ∧ x.p ≤ 18446744073709551615 ∧ -9223372036854775808 ≤ x.n ∧ x.n ≤ 9223372036854775807
/-- rows that are read, wherever they lie -/
def Lv (w : World) (v : Value) (xs : List L6) : Prop :=
  ∃ ao cap, v = .slice ao xs.length cap ∧ xs.length ≤ cap ∧ cap ≤ maxLen ∧ (∀ x ∈ xs, L6.ok x) ∧ ∀ i (h : i < xs.length), ∃ b o, ao = some ⟨b, o, none⟩ ∧ w.cell? ⟨b, o + i * 6, none⟩ = some (.int .u64 (xs[i].v : Int)) ∧ w.cell? ⟨b, o + i * 6 + 1, none⟩ = some (.int .u64 (xs[i].p : Int)) ∧ w.cell? ⟨b, o + i * 6 + 2, none⟩ = some (.int .i64 xs[i].n) ∧ w.cell? ⟨b, o + i * 6 + 3, none⟩ = some (.bool xs[i].big) ∧ w.cell? ⟨b, o + i * 6 + 4, none⟩ = some (.bool xs[i].wr) ∧ w.cell? ⟨b, o + i * 6 + 5, none⟩ = some (.bool xs[i].ex)
theorem Lv.below {w w' : World} {v : Value} {xs : List L6} (h : Lv w v xs) (hb : Below w.heap.size w w') : Lv w' v xs := by
  obtain ⟨ao, cap, rfl, h1, h2, h4, h3⟩ := h
  refine ⟨ao, cap, rfl, h1, h2, h4, fun i hi => ?_⟩
  obtain ⟨b, o, rfl, c0, c1, c2, c3, c4, c5⟩ := h3 i hi
  have hl := World.block_lt_of_cell? w _ c0
  exact ⟨b, o, rfl, (hb.cell (p := ⟨b, o + i * 6, none⟩) hl).trans c0, (hb.cell (p := ⟨b, o + i * 6 + 1, none⟩) hl).trans c1, (hb.cell (p := ⟨b, o + i * 6 + 2, none⟩) hl).trans c2, (hb.cell (p := ⟨b, o + i * 6 + 3, none⟩) hl).trans c3, (hb.cell (p := ⟨b, o + i * 6 + 4, none⟩) hl).trans c4, (hb.cell (p := ⟨b, o + i * 6 + 5, none⟩) hl).trans c5⟩
theorem aloneF_zero {x : L6} (h : aloneF x = 0) : 1 ≤ x.n ∧ x.v % unitF x = 0 ∧ x.p % unitF x = 0 ∧ x.v + x.n.toNat * 4096 ≤ 549755813888 ∧ x.p + x.n.toNat * 4096 ≤ 4294967296 ∧ (x.big = true → x.n % 512 = 0) := by
  unfold aloneF at h
  by_cases h1 : x.n < 1 ∨ (x.big = true ∧ x.n % 512 ≠ 0)
  · rw [if_pos h1] at h
    cases h
  rw [if_neg h1] at h
  by_cases h2 : x.v % unitF x ≠ 0 ∨ x.p % unitF x ≠ 0
  · rw [if_pos h2] at h
    cases h
  rw [if_neg h2] at h
  cases h3 : winB x.v x.n.toNat 549755813888 with
  | false =>
    rw [if_pos h3] at h
    cases h
  | true =>
    rw [if_neg (by rw [h3]; decide)] at h
    cases h4 : winB x.p x.n.toNat 4294967296 with
    | false =>
      rw [if_pos h4] at h
      cases h
    | true =>
      unfold winB at h3 h4
      have h3 := of_decide_eq_true h3
      have h4 := of_decide_eq_true h4
      refine ⟨by omega, by omega, by omega, h3, h4, fun hb => ?_⟩
      by_cases h5 : x.n % 512 = 0
      · exact h5
      · exact absurd (Or.inr ⟨hb, h5⟩) h1
/-- why a row may not be, behind what ends at t -/
def refuF : Nat → List L6 → Int
  | _, [] => 0
  | t, x :: xs => if aloneF x ≠ 0 then aloneF x else if x.v < t then 120 else refuF (x.v + x.n.toNat * 4096) xs
set_option maxRecDepth 100000 in
set_option maxHeartbeats 4000000 in
theorem prefusal_any {w : World} {v : Value} {xs : List L6} (h : Lv w v xs) : Calls Tryz.prog 29 #[v] w fun e w' => e = .returned (.int .i64 (refuF 0 xs)) ∧ Below w.heap.size w w' := by
  have HR := Lib.hid h
  obtain ⟨ao, cap, rfl, h1, h2, h3, _⟩ := h
  unfold maxLen at h2
  obtain ⟨n, hn⟩ : ∃ n, xs.length = n := ⟨_, rfl⟩
  have HN := Lib.hid hn
  have HX : Hid (∀ x ∈ xs, L6.ok x) := h3
  rw [hn] at h1 ⊢
  obtain ⟨RV, hRV⟩ : ∃ R, refuF 0 xs = R := ⟨_, rfl⟩
  rw [hRV]
  have HR0 : Hid (refuF 0 (xs.drop 0) = RV) := hRV
  have HB0 : Hid (Below w.heap.size w w) := Below.refl _ _
  clear hn h3 hRV
  go_enter Tryz.func29, Tryz.ntmps29
  go_wp2_with fail
  go_loopw [3, 9] (fun tv iv wr => ∃ (i t : Nat), i ≤ n ∧ iv = .int .i64 (i : Int) ∧ tv = .int .u64 (t : Int) ∧ Hid (refuF t (xs.drop i) = RV) ∧ Hid (Below w.heap.size w wr)) (fun _ iv _ => n - (intOf iv).toNat)
  case atStart => exact ⟨0, 0, by omega, rfl, rfl, HR0, HB0⟩
  case round =>
    clear HB0 HR0
    obtain ⟨i, t, hi, rfl, rfl, HE, HB⟩ := hrel
    by_cases hin : i < n
    · have hix : i < xs.length := by rw [HN.out]; exact hin
      have ji : (i : Int) < (n : Int) := by omega
      have hw1 : IntKind.i64.wrap ((i : Int) + 1) = ((i + 1 : Nat) : Int) := by rw [IntKind.wrap_i64]; omega
      obtain ⟨_, _, e', _, _, _, hc⟩ := HR.out.below HB.out
      simp only [Value.slice.injEq] at e'
      obtain ⟨rfl, _, rfl⟩ := e'
      obtain ⟨b, of, rfl, c0, c1, c2, c3, c4, c5⟩ := hc i hix
      have HK : Hid (L6.ok xs[i]) := HX.out xs[i] (List.getElem_mem _)
      have HD : Hid (refuF t (xs[i] :: xs.drop (i + 1)) = RV) := by
        have := HE.out
        rw [List.drop_eq_getElem_cons hix] at this
        exact this
      clear hc HE
      generalize xs[i] = x at *
      have HA : Hid (∀ W, Calls Tryz.prog 54 #[.agg #[.int .u64 (x.v : Int), .int .u64 (x.p : Int), .int .i64 x.n, .bool x.big, .bool x.wr, .bool x.ex]] W fun e w' => e = .returned (.int .i64 (aloneF x)) ∧ Below W.heap.size W w') := fun W => alone_any HK.out.1 HK.out.2.1 HK.out.2.2.2 W
      have HL := Lib.hid (LfAt.new' wr x)
      have HBl := Lib.hid (lf_below' wr x)
      unfold refuF at HD
      go_wp2_with fail
      refine (HA.out _).mono ?_
      rintro e w5 ⟨rfl, hb5⟩
      have HL5 := Lib.hid (HL.out.below hb5)
      have HB5 : Hid (Below w.heap.size w w5) := HB.out.trans ((HBl.out.trans (hb5.mono HBl.out.size)).mono HB.out.size)
      clear hb5 HL HBl HB HA c0 c1 c2 c3 c4 c5
      obtain ⟨er, her⟩ : ∃ e, aloneF x = e := ⟨_, rfl⟩
      have HZ := Lib.hid her
      rw [her] at HD ⊢
      clear her
      by_cases h5 : er = 0
      · subst h5
        obtain ⟨z1, z2, z3, z4, z5, z6⟩ := aloneF_zero HZ.out
        obtain ⟨xv, xp, xn, xb, xw, xe⟩ := x
        simp only at z1 z4 HD HL5 ⊢
        obtain ⟨m, rfl⟩ : ∃ m : Nat, xn = (m : Int) := ⟨xn.toNat, by omega⟩
        have z4 : xv + m * 4096 ≤ 549755813888 := z4
        have HEn : Hid (∀ W, Calls Tryz.prog 55 #[.agg #[.int .u64 (xv : Int), .int .u64 (xp : Int), .int .i64 (m : Int), .bool xb, .bool xw, .bool xe]] W fun e w' => e = .returned (.int .u64 ((xv + m * 4096 : Nat) : Int)) ∧ Below W.heap.size W w') := fun W => end_any (by omega) W
        obtain ⟨c0, c1, c2, c3, c4, c5⟩ := HL5.out.cells
        simp only at c0 c1 c2 c3 c4 c5
        rw [show ((m : Int)).toNat = m from rfl] at HD
        obtain ⟨s, hs⟩ : ∃ s, xv + m * 4096 = s := ⟨_, rfl⟩
        rw [hs] at HEn HD
        clear z1 z2 z3 z4 z5 z6 hs HZ HK
        by_cases h6 : xv < t
        · have j6 : (xv : Int) < (t : Int) := by omega
          have HF : Hid ((120 : Int) = RV) := by
            have := HD.out
            simp only [ne_eq, not_true_eq_false, if_false, h6, if_true] at this
            exact this
          clear HD
          go_wp2_with fail
          go_ret
          exact ⟨by rw [← HF.out]; rfl, HB5.out⟩
        · have j6 : ¬ (xv : Int) < (t : Int) := by omega
          have HF : Hid (refuF s (xs.drop (i + 1)) = RV) := by
            have := HD.out
            simp only [ne_eq, not_true_eq_false, if_false, h6] at this
            exact this
          clear HD
          go_wp2_with fail
          refine (HEn.out _).mono ?_
          rintro e w6 ⟨rfl, hb6⟩
          have HB6 : Hid (Below w.heap.size w w6) := HB5.out.trans (hb6.mono HB5.out.size)
          clear hb6 HEn HL5 c0 c1 c2 c3 c4 c5
          go_wp2_with fail
          go_roundw
          case rel => exact ⟨i + 1, s, by omega, rfl, rfl, HF, HB6⟩
          case measure => simp [intOf]; omega
      · have HF : Hid (er = RV) := by
          have := HD.out
          simp only [ne_eq, h5, not_false_eq_true, if_true] at this
          exact this
        clear HD
        go_wp2_with fail
        go_ret
        exact ⟨by rw [← HF.out]; rfl, HB5.out⟩
    · obtain rfl : i = n := by omega
      have HF : Hid ((0 : Int) = RV) := by
        have := HE.out
        rw [List.drop_eq_nil_of_le (by rw [HN.out]; exact Nat.le_refl _)] at this
        exact this
      go_wp2_with fail
      go_ret
      exact ⟨by rw [← HF.out]; rfl, HB.out⟩
end Go.Proofs.YtlplbbnicfeoaaaGreat
/- Rows of leaves that come in, in memory. Own work. -/
namespace Go.Proofs.YtlplbbnicfeoaaaGreat
open Go.RowKit Go.ChangeShapes Go.WideShapes
theorem six_list {α : Type} {cs : List α} {x0 x1 x2 x3 x4 x5 : α} (h : cs.length = 6) (h0 : (cs.drop 0).take 1 = [x0]) (h1 : (cs.drop 1).take 1 = [x1]) (h2 : (cs.drop 2).take 1 = [x2]) (h3 : (cs.drop 3).take 1 = [x3]) (h4 : (cs.drop 4).take 1 = [x4]) (h5 : (cs.drop 5).take 1 = [x5]) : cs = [x0, x1, x2, x3, x4, x5] := by
  match cs, h with
  | [a, b, c, d, e, f], _ => simp_all
theorem u64_nat {n : Int} (h : (Lit.int .u64 n).wf = true) : ∃ m : Nat, n = (m : Int) ∧ m ≤ 18446744073709551615 := by
  simp [Lit.wf] at h
  have h1 : 0 ≤ n := h.1
  have h2 : n ≤ 18446744073709551615 := h.2
  exact ⟨n.toNat, by omega, by omega⟩
theorem i64_in {n : Int} (h : (Lit.int .i64 n).wf = true) : -9223372036854775808 ≤ n ∧ n ≤ 9223372036854775807 := by
  simp [Lit.wf] at h
  have h1 : -9223372036854775808 ≤ n := h.1
  have h2 : n ≤ 9223372036854775807 := h.2
  exact ⟨h1, h2⟩
theorem some_in {α : Type} {xs : List α} {n i : Nat} (h : xs.length = n) (hi : i < n) : ∃ y, xs[i]? = some y := ⟨xs[i], List.getElem?_eq_getElem (by omega)⟩
section
variable {H : Type} {enc : TypeId × Value → H} {W : World} {base : Nat} {held : Bool}
theorem leaf1_opened {fuel : Nat} {cs : List Value} {x : DataW H × List MemPlace} (h : DataW.trod enc Tryz.prog W base (fun _ => true) held fuel 26 cs = some x) :
    ∃ y : L6, cs = [.int .u64 (y.v : Int), .int .u64 (y.p : Int), .int .i64 y.n, .bool y.big, .bool y.wr, .bool y.ex] ∧ L6.ok y := by
  obtain ⟨xs, n, _, _, hl, hlen, hf⟩ := DataW.trod_struct Tryz.underlying26 h
  have hlen6 : xs.length = 6 := hlen
  obtain ⟨y0, e0⟩ := some_in hlen6 (show 0 < 6 by decide)
  obtain ⟨y1, e1⟩ := some_in hlen6 (show 1 < 6 by decide)
  obtain ⟨y2, e2⟩ := some_in hlen6 (show 2 < 6 by decide)
  obtain ⟨y3, e3⟩ := some_in hlen6 (show 3 < 6 by decide)
  obtain ⟨y4, e4⟩ := some_in hlen6 (show 4 < 6 by decide)
  obtain ⟨y5, e5⟩ := some_in hlen6 (show 5 < 6 by decide)
  obtain ⟨v, hv, _, wv⟩ := DataW.trod_int Tryz.underlying23 ((hf 0 _ rfl).trans e0)
  obtain ⟨p, hp, _, wp⟩ := DataW.trod_int Tryz.underlying23 ((hf 1 _ rfl).trans e1)
  obtain ⟨k, hk, _, wk⟩ := DataW.trod_int Tryz.underlying3 ((hf 2 _ rfl).trans e2)
  obtain ⟨b3, h3, _⟩ := DataW.trod_bool Tryz.underlying4 ((hf 3 _ rfl).trans e3)
  obtain ⟨b4, h4, _⟩ := DataW.trod_bool Tryz.underlying4 ((hf 4 _ rfl).trans e4)
  obtain ⟨b5, h5, _⟩ := DataW.trod_bool Tryz.underlying4 ((hf 5 _ rfl).trans e5)
  have c3 : Tryz.prog.cellsOf 3 = 1 := by kernel_rfl
  have c9 : Tryz.prog.cellsOf 4 = 1 := by kernel_rfl
  have c6 : Tryz.prog.cellsOf 23 = 1 := by kernel_rfl
  have cS : Tryz.prog.cellsOf 26 = 6 := by kernel_rfl
  change List.take (Tryz.prog.cellsOf 23) (List.drop 0 cs) = _ at hv
  change List.take (Tryz.prog.cellsOf 23) (List.drop 1 cs) = _ at hp
  change List.take (Tryz.prog.cellsOf 3) (List.drop 2 cs) = _ at hk
  change List.take (Tryz.prog.cellsOf 4) (List.drop 3 cs) = _ at h3
  change List.take (Tryz.prog.cellsOf 4) (List.drop 4 cs) = _ at h4
  change List.take (Tryz.prog.cellsOf 4) (List.drop 5 cs) = _ at h5
  rw [c6] at hv hp
  rw [c3] at hk
  rw [c9] at h3 h4 h5
  obtain ⟨vv, rfl, va⟩ := u64_nat wv
  obtain ⟨pp, rfl, pa⟩ := u64_nat wp
  have ka := i64_in wk
  exact ⟨⟨vv, pp, k, b3, b4, b5⟩, six_list (by rw [hl, cS]) hv hp hk h3 h4 h5, va, pa, ka.1, ka.2⟩
theorem leaves_opened {fuel : Nat} {cs : List Value} {x : DataW H × List MemPlace} (h : DataW.trod enc Tryz.prog W base (fun _ => true) held fuel 22 cs = some x) : ∃ v xs, cs = [v] ∧ Lv W v xs := by
  rcases Go.Deep.open_slice Tryz.underlying22 h with ⟨rfl, _⟩ | ⟨a, len, cap, m, n, D, Pl, rfl, _, hl, hm, hmm, rfl, hx⟩
  · exact ⟨_, [], rfl, none, 0, rfl, Nat.le_refl _, Nat.zero_le _, fun _ h => (by cases h), fun i hi => by simp at hi⟩
  · have cS : Tryz.prog.cellsOf 26 = 6 := by kernel_rfl
    rw [cS] at hx
    have hmc : m = cap := by simpa using hmm
    haveI : Inhabited L6 := ⟨⟨0, 0, 0, false, false, false⟩⟩
    obtain ⟨F, hF⟩ := Go.Deep.choose_lt (α := L6) (n := len) (p := fun i y => L6.ok y ∧ ∀ j v, ([.int .u64 (y.v : Int), .int .u64 (y.p : Int), .int .i64 y.n, .bool y.big, .bool y.wr, .bool y.ex] : List Value)[j]? = some v → W.cell? ((a.add (i * 6)).add j) = some v) (fun i hi => by
      obtain ⟨cs', h1, h2⟩ := hx i (by omega)
      obtain ⟨y, rfl, hb⟩ := leaf1_opened h2
      obtain ⟨_, _, hc⟩ := World.cells?_some h1
      refine ⟨y, hb, fun j v hj => ?_⟩
      rw [hc j (by have := (List.getElem?_eq_some_iff.1 hj).1; simpa using this)]
      exact hj)
    refine ⟨_, (List.range len).map F, rfl, some a, cap, by simp, by simpa using hl, hm, fun y hy => ?_, fun i hi => ?_⟩
    · obtain ⟨i, hi, rfl⟩ := List.mem_map.1 hy
      exact (hF i (by simpa using hi)).1
    · have hi' : i < len := by simpa using hi
      obtain ⟨_, hc⟩ := hF i hi'
      have hget : ((List.range len).map F)[i] = F i := by simp
      rw [hget]
      obtain ⟨b, o, sp⟩ := a
      cases sp with
      | some q => exact absurd (World.cell?_spot ((hF 0 (by omega)).2 0 _ rfl)) (by simp [Addr.add])
      | none =>
        simp only [Go.WideShapes.add_plain] at hc
        exact ⟨b, o, rfl, hc 0 _ rfl, hc 1 _ rfl, hc 2 _ rfl, hc 3 _ rfl, hc 4 _ rfl, hc 5 _ rfl⟩
end
end Go.Proofs.YtlplbbnicfeoaaaGreat
/- Pages: how many tables rows want. Own work. -/
namespace Go.Proofs.YtlplbbnicfeoaaaGreat
open Go.RowKit Wk
set_option linter.unusedVariables false
theorem NxAt.put0 {w : World} {N a b c : Nat} (h : NxAt w N a b) : NxAt (w.setCell ⟨N, 0, none⟩ (.int .u64 (c : Int))) N c b := by
  have h' : w.heap[N]? = _ := h
  unfold NxAt
  simp [World.setCell, Array.getElem?_modify, h']
theorem NxAt.put1 {w : World} {N a b c : Nat} (h : NxAt w N a b) : NxAt (w.setCell ⟨N, 1, none⟩ (.int .u64 (c : Int))) N a c := by
  have h' : w.heap[N]? = _ := h
  unfold NxAt
  simp [World.setCell, Array.getElem?_modify, h']
/-- so many tables, counted from many on; of each level the entry behind the last one that is counted -/
def tabsF : Nat → Nat → Nat → List L6 → Nat
  | many, _, _, [] => many
  | many, n0, n1, x :: xs =>
    let e := x.v + x.n.toNat * 4096 - 1
    let k0 := thrF e 0 + 1
    let d0 := k0 - max (thrF x.v 0) n0
    if x.big = true then tabsF (many + d0) k0 n1 xs
    else
      let k1 := thrF e 1 + 1
      let d1 := k1 - max (thrF x.v 1) n1
      tabsF (many + d0 + d1) k0 k1 xs
theorem thr_step {t v e n g : Nat} (hg : 0 < g) (hn : n = 0 ∨ (n - 1) * g < t) (ht : t ≤ v) (he : v < e) : max (v / g) n ≤ (e - 1) / g + 1 ∧ ((e - 1) / g + 1 = 0 ∨ ((e - 1) / g + 1 - 1) * g < e) ∧ n ≤ (e - 1) / g + 1 := by
  have h1 : v / g ≤ (e - 1) / g := Nat.div_le_div_right (by omega)
  have h2 : (e - 1) / g * g ≤ e - 1 := Nat.div_mul_le_self _ _
  have h4 : n = 0 ∨ n - 1 ≤ v / g := hn.imp id fun h => (Nat.le_div_iff_mul_le hg).2 (by omega)
  generalize v / g = a at *
  generalize hc : (e - 1) / g * g = cc at *
  generalize (e - 1) / g = c at *
  refine ⟨Nat.max_le.2 ⟨by omega, by omega⟩, Or.inr ?_, by omega⟩
  rw [Nat.add_sub_cancel, hc]
  omega
theorem max_run (ts : Array TypeId) (ty : TypeId) {q n f : Nat} (hf : max q n = f) (w : World) : (Builtin.max_ ts ty #[.int .u64 (q : Int), .int .u64 (n : Int)]).run Tryz.prog w = .ok (.int .u64 (f : Int)) w := by
  have e : (if (n : Int) > (q : Int) then (n : Int) else (q : Int)) = (f : Int) := by
    split <;> omega
  rw [← e]
  rfl
theorem wp_max {o : Oper} {a : Act} {w : World} {K : Act → World → Prop} {Q : Exit → Act → World → Prop} (i j : Tmp) (ts : Array TypeId) (ho : o.op = .call { callee := .builtin .max, args := #[.tmp i, .tmp j], argTypes := ts }) {q n f : Nat} (hx : a.tmps[i]?.getD undef = .int .u64 (q : Int)) (hy : a.tmps[j]?.getD undef = .int .u64 (n : Int)) (hf : max q n = f) (hk : K (a.put o.dst (.int .u64 (f : Int))) w) : o.wp Tryz.prog a w K Q := by
  obtain ⟨dst, op, ty, pos, after, guard⟩ := o
  simp only at ho
  subst ho
  have hm := max_run ts ty hf w
  clear hf
  go_simp
  exact hk
theorem refuF_zero {t : Nat} {x : L6} {xs : List L6} (h : refuF t (x :: xs) = 0) : aloneF x = 0 ∧ t ≤ x.v ∧ refuF (x.v + x.n.toNat * 4096) xs = 0 := by
  unfold refuF at h
  by_cases h1 : aloneF x ≠ 0
  · rw [if_pos h1] at h
    exact absurd h h1
  rw [if_neg h1] at h
  by_cases h2 : x.v < t
  · rw [if_pos h2] at h
    cases h
  rw [if_neg h2] at h
  exact ⟨by omega, by omega, h⟩
set_option maxRecDepth 100000 in
set_option maxHeartbeats 4000000 in
theorem tables_any {w : World} {v : Value} {xs : List L6} (h : Lv w v xs) (hz : refuF 0 xs = 0) : Calls Tryz.prog 30 #[v] w fun e w' => e = .returned (.int .i64 (tabsF 1 0 0 xs : Int)) ∧ Below w.heap.size w w' := by
  have HR := Lib.hid h
  have HA : Hid (Below w.heap.size w (w.alloc (.cells #[.int .u64 0, .int .u64 0] 122))) := (Below.refl _ _).alloc (Nat.le_refl _) _
  have HNa : Hid (NxAt (w.alloc (.cells #[.int .u64 0, .int .u64 0] 122)) w.heap.size 0 0) := heap_alloc_new w _
  obtain ⟨ao, cap, rfl, h1, h2, h3, h9⟩ := h
  clear h9
  unfold maxLen at h2
  obtain ⟨n, hn⟩ : ∃ n, xs.length = n := ⟨_, rfl⟩
  have HN := Lib.hid hn
  have HX : Hid (∀ x ∈ xs, L6.ok x) := h3
  rw [hn] at h1 ⊢
  obtain ⟨RV, hRV⟩ : ∃ R, tabsF 1 0 0 xs = R := ⟨_, rfl⟩
  rw [hRV]
  have HR0 : Hid (tabsF 1 0 0 (xs.drop 0) = RV) := hRV
  have HZ0 : Hid (refuF 0 (xs.drop 0) = 0) := hz
  clear hn h3 hRV hz
  go_enter Tryz.func30, Tryz.ntmps30
  go_wp2_with fail
  generalize (w.alloc (.cells #[.int .u64 0, .int .u64 0] 122)) = w0 at *
  go_loopw [3, 11] (fun mv iv wr => ∃ (i t n0 n1 many : Nat), i ≤ n ∧ iv = .int .i64 (i : Int) ∧ mv = .int .u64 (many : Int) ∧ many ≤ 1 + n0 + n1 ∧ n0 ≤ 512 ∧ n1 ≤ 262144 ∧ Hid (n0 = 0 ∨ (n0 - 1) * 1073741824 < t) ∧ Hid (n1 = 0 ∨ (n1 - 1) * 2097152 < t) ∧ Hid (tabsF many n0 n1 (xs.drop i) = RV) ∧ Hid (refuF t (xs.drop i) = 0) ∧ Hid (NxAt wr w.heap.size n0 n1) ∧ Hid (Below w.heap.size w wr)) (fun _ iv _ => n - (intOf iv).toNat)
  case atStart => exact ⟨0, 0, 0, 0, 1, by omega, rfl, rfl, by omega, by omega, by omega, Or.inl rfl, Or.inl rfl, HR0, HZ0, HNa, HA⟩
  case round =>
    clear HA HNa HR0 HZ0
    obtain ⟨i, t, n0, n1, many, hi, rfl, rfl, hmy, hn0, hn1, HT0, HT1, HE, HZ, HNx, HB⟩ := hrel
    by_cases hin : i < n
    · have hix : i < xs.length := by rw [HN.out]; exact hin
      have ji : (i : Int) < (n : Int) := by omega
      have hw1 : IntKind.i64.wrap ((i : Int) + 1) = ((i + 1 : Nat) : Int) := by rw [IntKind.wrap_i64]; omega
      obtain ⟨_, _, e', _, _, _, hc⟩ := HR.out.below HB.out
      simp only [Value.slice.injEq] at e'
      obtain ⟨rfl, e9, rfl⟩ := e'
      clear e9
      obtain ⟨b, of, rfl, c0, c1, c2, c3, c4, c5⟩ := hc i hix
      have HD : Hid (tabsF many n0 n1 (xs[i] :: xs.drop (i + 1)) = RV) := by
        have := HE.out
        rw [List.drop_eq_getElem_cons hix] at this
        exact this
      have hzd : refuF t (xs[i] :: xs.drop (i + 1)) = 0 := by
        have := HZ.out
        rw [List.drop_eq_getElem_cons hix] at this
        exact this
      clear hc HE HZ
      generalize xs[i] = x at *
      obtain ⟨ha0, ht, hzr⟩ := refuF_zero hzd
      obtain ⟨z1, z2, z3, z4, z5, z6⟩ := aloneF_zero ha0
      obtain ⟨v, p, xn, xb, xw, xe⟩ := x
      simp only at z1 z4 ht hzr c0 c1 c2 c3 c4 c5
      obtain ⟨m, rfl⟩ : ∃ m : Nat, xn = (m : Int) := ⟨xn.toNat, by omega⟩
      have z4 : v + m * 4096 ≤ 549755813888 := z4
      have HZr : Hid (refuF (v + m * 4096) (xs.drop (i + 1)) = 0) := hzr
      have HEn0 := Lib.hid fun (W : World) => end_any (v := v) (p := p) (m := m) (b := xb) (wr := xw) (ex := xe) (by omega) W
      have HL1 := Lib.hid (LfAt.new' wr ⟨v, p, (m : Int), xb, xw, xe⟩)
      have HBl := Lib.hid (lf_below' wr ⟨v, p, (m : Int), xb, xw, xe⟩)
      unfold V6 at HEn0
      simp only at HL1 HBl HEn0
      have hvs : v < v + m * 4096 := by omega
      obtain ⟨g01, g02, g03⟩ := thr_step (g := 1073741824) (by omega) HT0.out ht hvs
      obtain ⟨g11, g12, g13⟩ := thr_step (g := 2097152) (by omega) HT1.out ht hvs
      have HT1o : Hid (n1 = 0 ∨ (n1 - 1) * 2097152 < t) := HT1
      clear hzd ha0 z2 z3 z5 z6 HT0 HT1 hzr
      cases xb with
      | false =>
        have hD : tabsF (many + (thrF (v + m * 4096 - 1) 0 + 1 - max (thrF v 0) n0) + (thrF (v + m * 4096 - 1) 1 + 1 - max (thrF v 1) n1)) (thrF (v + m * 4096 - 1) 0 + 1) (thrF (v + m * 4096 - 1) 1 + 1) (xs.drop (i + 1)) = RV := HD.out
        have HLv : Hid (∀ W, Calls Tryz.prog 34 #[.bool false] W fun e w' => e = .returned (.int .i64 2) ∧ w' = W) := fun W => leafLevel_any false W
        obtain ⟨s, hs⟩ : ∃ s, v + m * 4096 = s := ⟨_, rfl⟩
        rw [hs] at hD HEn0 HZr g01 g02 g03 g11 g12 g13 z4 hvs
        have hs' : 1 ≤ s := by omega
        obtain ⟨s1, hs1⟩ : ∃ s1, s - 1 = s1 := ⟨_, rfl⟩
        rw [hs1] at hD g01 g02 g03 g11 g12 g13
        have wS : IntKind.u64.wrap ((s : Int) - 1) = (s1 : Int) := by rw [IntKind.wrap_u64]; omega
        obtain ⟨q0, hq0⟩ : ∃ q, thrF v 0 = q := ⟨_, rfl⟩
        obtain ⟨r0, hr0⟩ : ∃ r, thrF s1 0 = r := ⟨_, rfl⟩
        have gq0 : v / 1073741824 = q0 := hq0
        have gr0 : s1 / 1073741824 = r0 := hr0
        rw [hq0, hr0] at hD
        rw [gq0, gr0] at g01
        rw [gr0] at g02 g03
        have gk0 : r0 + 1 ≤ 512 := by rw [← gr0]; omega
        obtain ⟨k0, hk0⟩ : ∃ k, r0 + 1 = k := ⟨_, rfl⟩
        obtain ⟨f0, hf0⟩ : ∃ f, max q0 n0 = f := ⟨_, rfl⟩
        rw [hk0, hf0] at hD g01
        rw [hk0] at g02 g03 gk0
        obtain ⟨d0, hd0⟩ : ∃ d, k0 - f0 = d := ⟨_, rfl⟩
        rw [hd0] at hD
        have wK0 : IntKind.u64.wrap ((r0 : Int) + 1) = (k0 : Int) := by rw [IntKind.wrap_u64]; omega
        have wD0 : IntKind.u64.wrap ((k0 : Int) - (f0 : Int)) = (d0 : Int) := by rw [IntKind.wrap_u64]; omega
        have HT0 : Hid (∀ W, Calls Tryz.prog 56 #[.int .u64 (v : Int), .int .i64 0] W fun e w' => e = .returned (.int .u64 (q0 : Int)) ∧ w' = W) := fun W => by rw [← hq0]; exact through_any v 0 (by omega) W
        have HE0 : Hid (∀ W, Calls Tryz.prog 56 #[.int .u64 (s1 : Int), .int .i64 0] W fun e w' => e = .returned (.int .u64 (r0 : Int)) ∧ w' = W) := fun W => by rw [← hr0]; exact through_any s1 0 (by omega) W
        have HG0 := Lib.hid g02
        have HI0 : Hid (n0 ≤ k0 ∧ k0 ≤ 512 ∧ f0 ≤ k0 ∧ n0 ≤ f0 ∧ k0 - f0 = d0) := ⟨g03, gk0, g01, by omega, hd0⟩
        have HM0 := Lib.hid hf0
        clear hq0 hr0 gq0 gr0 hk0 hf0 hd0 gk0
        obtain ⟨q1, hq1⟩ : ∃ q, thrF v 1 = q := ⟨_, rfl⟩
        obtain ⟨r1, hr1⟩ : ∃ r, thrF s1 1 = r := ⟨_, rfl⟩
        have gq1 : v / 2097152 = q1 := hq1
        have gr1 : s1 / 2097152 = r1 := hr1
        rw [hq1, hr1] at hD
        rw [gq1, gr1] at g11
        rw [gr1] at g12 g13
        have gk1 : r1 + 1 ≤ 262144 := by rw [← gr1]; omega
        obtain ⟨k1, hk1⟩ : ∃ k, r1 + 1 = k := ⟨_, rfl⟩
        obtain ⟨f1, hf1⟩ : ∃ f, max q1 n1 = f := ⟨_, rfl⟩
        rw [hk1, hf1] at hD g11
        rw [hk1] at g12 g13 gk1
        obtain ⟨d1, hd1⟩ : ∃ d, k1 - f1 = d := ⟨_, rfl⟩
        rw [hd1] at hD
        have wK1 : IntKind.u64.wrap ((r1 : Int) + 1) = (k1 : Int) := by rw [IntKind.wrap_u64]; omega
        have wD1 : IntKind.u64.wrap ((k1 : Int) - (f1 : Int)) = (d1 : Int) := by rw [IntKind.wrap_u64]; omega
        have HT1 : Hid (∀ W, Calls Tryz.prog 56 #[.int .u64 (v : Int), .int .i64 1] W fun e w' => e = .returned (.int .u64 (q1 : Int)) ∧ w' = W) := fun W => by rw [← hq1]; exact through_any v 1 (by omega) W
        have HE1 : Hid (∀ W, Calls Tryz.prog 56 #[.int .u64 (s1 : Int), .int .i64 1] W fun e w' => e = .returned (.int .u64 (r1 : Int)) ∧ w' = W) := fun W => by rw [← hr1]; exact through_any s1 1 (by omega) W
        have HG1 := Lib.hid g12
        have HI1 : Hid (n1 ≤ k1 ∧ k1 ≤ 262144 ∧ f1 ≤ k1 ∧ n1 ≤ f1 ∧ k1 - f1 = d1) := ⟨g13, gk1, g11, by omega, hd1⟩
        have HM1 := Lib.hid hf1
        clear hq1 hr1 gq1 gr1 hk1 hf1 hd1 gk1
        have HEn := HEn0
        have HZs := Lib.hid z4
        obtain ⟨M0, hM0⟩ : ∃ M, many + d0 = M := ⟨_, rfl⟩
        obtain ⟨M1, hM1⟩ : ∃ M, M0 + d1 = M := ⟨_, rfl⟩
        rw [hM0, hM1] at hD
        have wM0 : IntKind.u64.wrap ((many : Int) + (d0 : Int)) = (M0 : Int) := by rw [IntKind.wrap_u64]; have := HI0.out; omega
        have wM1 : IntKind.u64.wrap ((M0 : Int) + (d1 : Int)) = (M1 : Int) := by rw [IntKind.wrap_u64]; have := HI0.out; have := HI1.out; omega
        have HMy : Hid (M1 ≤ 1 + k0 + k1) := by have := HI0.out; have := HI1.out; show M1 ≤ 1 + k0 + k1; omega
        clear hM0 hM1
        have HDD := Lib.hid hD
        clear hD HEn0 HD hs z4 hvs g01 g02 g03 g11 g12 g13 z1 ht hs1 hs'
        go_wp2_with fail
        refine (HLv.out _).mono ?_
        rintro e w8 ⟨rfl, hw8⟩
        have hw8 := hw8.symm
        subst hw8
        have HN1 := Lib.hid (HNx.out.below HBl.out)
        have HB1 := Lib.hid (HB.out.trans (HBl.out.mono HB.out.size))
        have HSz : Hid (w.heap.size ≤ wr.heap.size) := HB.out.size
        have hXN : wr.heap.size ≠ w.heap.size := Nat.ne_of_gt HNx.out.lt
        clear HBl HB HNx c0 c1 c2 c3 c4 c5
        generalize (wr.alloc (.cells #[.int .u64 (v : Int), .int .u64 (p : Int), .int .i64 (m : Int), .bool false, .bool xw, .bool xe] 26)) = w1 at *
        generalize wr.heap.size = X at *
        obtain ⟨c0, c1, c2, c3, c4, c5⟩ := HL1.out.cells
        simp only at c0 c1 c2 c3 c4 c5
        go_wp2_with fail
        refine wp_loop_rounds 3 ?_
        clear c0 c1 c2 c3 c4 c5
        rw [rounds_succ]
        obtain ⟨c0, c1, c2, c3, c4, c5⟩ := HL1.out.cells
        simp only at c0 c1 c2 c3 c4 c5
        obtain ⟨m0, m1⟩ := HN1.out.cells
        go_wp2_with fail
        go_region_held3 (fun w' => w'.cell? ⟨X, 0, none⟩ = some (.int .u64 (v : Int)) ∧ w'.cell? ⟨w.heap.size, 0, none⟩ = some (.int .u64 (n0 : Int))) (go_keep) (first | (go_at_call 56; refine (HT0.out _).mono ?_; rintro e w9 ⟨rfl, hw9⟩; have hw9 := hw9.symm; subst hw9) | (rw [if_pos (by rfl)]; refine wp_max 24 27 _ rfl rfl rfl HM0.out ?_))
        have hd1 : LfAt w1.drew X ⟨v, p, (m : Int), false, xw, xe⟩ := HL1.out
        have hd2 : NxAt w1.drew w.heap.size n0 n1 := HN1.out
        have hd3 : Below w.heap.size w w1.drew := HB1.out.drew
        have HL := Lib.hid hd1
        have HNn := Lib.hid hd2
        have HB := Lib.hid hd3
        clear hd1 hd2 hd3 HL1 HN1 HB1 c0 c1 c2 c3 c4 c5 m0 m1
        generalize w1.drew = wd1 at *
        obtain ⟨c0, c1, c2, c3, c4, c5⟩ := HL.out.cells
        simp only at c0 c1 c2 c3 c4 c5
        go_wp2_with fail
        refine (HEn.out _).mono ?_
        rintro e w2 ⟨rfl, hb⟩
        have HL2 := Lib.hid (HL.out.below hb)
        have HN2 := Lib.hid (HNn.out.below hb)
        have HB2 := Lib.hid (HB.out.trans (hb.mono HB.out.size))
        clear hb HL HNn HB c0 c1 c2 c3 c4 c5
        obtain ⟨m0, m1⟩ := HN2.out.cells
        have f0' := HN2.out.free 0
        have f1' := HN2.out.free 1
        go_wp2_with fail
        refine (HE0.out _).mono ?_
        rintro e w3 ⟨rfl, hw9⟩
        have hw9 := hw9.symm
        subst hw9
        have HL3 : Hid (LfAt (w2.setCell ⟨w.heap.size, 0, none⟩ (.int .u64 (k0 : Int))) X ⟨v, p, (m : Int), false, xw, xe⟩) := (Below.heap_setCell _ _ _ _ hXN).trans HL2.out
        have HN3 : Hid (NxAt (w2.setCell ⟨w.heap.size, 0, none⟩ (.int .u64 (k0 : Int))) w.heap.size k0 n1) := HN2.out.put0
        have HB3 : Hid (Below w.heap.size w (w2.setCell ⟨w.heap.size, 0, none⟩ (.int .u64 (k0 : Int)))) := HB2.out.setCell (Nat.le_refl _) _
        go_wp2_with fail
        clear HL2 HN2 HB2 m0 m1 f0' f1'
        generalize (w2.setCell ⟨w.heap.size, 0, none⟩ (.int .u64 (k0 : Int))) = w3 at *
        rw [rounds_succ]
        obtain ⟨c0, c1, c2, c3, c4, c5⟩ := HL3.out.cells
        simp only at c0 c1 c2 c3 c4 c5
        obtain ⟨m0, m1⟩ := HN3.out.cells
        go_wp2_with fail
        go_region_held3 (fun w' => w'.cell? ⟨X, 0, none⟩ = some (.int .u64 (v : Int)) ∧ w'.cell? ⟨w.heap.size, 1, none⟩ = some (.int .u64 (n1 : Int))) (go_keep) (first | (go_at_call 56; refine (HT1.out _).mono ?_; rintro e w9 ⟨rfl, hw9⟩; have hw9 := hw9.symm; subst hw9) | (rw [if_pos (by rfl)]; refine wp_max 24 27 _ rfl rfl rfl HM1.out ?_))
        have hd1 : LfAt w3.drew X ⟨v, p, (m : Int), false, xw, xe⟩ := HL3.out
        have hd2 : NxAt w3.drew w.heap.size k0 n1 := HN3.out
        have hd3 : Below w.heap.size w w3.drew := HB3.out.drew
        have HL := Lib.hid hd1
        have HNn := Lib.hid hd2
        have HB := Lib.hid hd3
        clear hd1 hd2 hd3 HL3 HN3 HB3 c0 c1 c2 c3 c4 c5 m0 m1
        generalize w3.drew = wd3 at *
        obtain ⟨c0, c1, c2, c3, c4, c5⟩ := HL.out.cells
        simp only at c0 c1 c2 c3 c4 c5
        go_wp2_with fail
        refine (HEn.out _).mono ?_
        rintro e w4 ⟨rfl, hb⟩
        have HL4 := Lib.hid (HL.out.below hb)
        have HN4 := Lib.hid (HNn.out.below hb)
        have HB4 := Lib.hid (HB.out.trans (hb.mono HB.out.size))
        clear hb HL HNn HB c0 c1 c2 c3 c4 c5
        obtain ⟨m0, m1⟩ := HN4.out.cells
        have f0' := HN4.out.free 0
        have f1' := HN4.out.free 1
        go_wp2_with fail
        refine (HE1.out _).mono ?_
        rintro e w5 ⟨rfl, hw9⟩
        have hw9 := hw9.symm
        subst hw9
        have HL5 : Hid (LfAt (w4.setCell ⟨w.heap.size, 1, none⟩ (.int .u64 (k1 : Int))) X ⟨v, p, (m : Int), false, xw, xe⟩) := (Below.heap_setCell _ _ _ _ hXN).trans HL4.out
        have HN5 : Hid (NxAt (w4.setCell ⟨w.heap.size, 1, none⟩ (.int .u64 (k1 : Int))) w.heap.size k0 k1) := HN4.out.put1
        have HB5 : Hid (Below w.heap.size w (w4.setCell ⟨w.heap.size, 1, none⟩ (.int .u64 (k1 : Int)))) := HB4.out.setCell (Nat.le_refl _) _
        go_wp2_with fail
        clear HL4 HN4 HB4 m0 m1 f0' f1'
        generalize (w4.setCell ⟨w.heap.size, 1, none⟩ (.int .u64 (k1 : Int))) = w5 at *
        rw [rounds_succ]
        go_wp2_with fail
        go_roundw
        case rel => exact ⟨i + 1, s, k0, k1, M1, by omega, rfl, rfl, HMy.out, by have := HI0.out; omega, by have := HI1.out; omega, HG0.out, HG1.out, HDD, HZr, HN5, HB5⟩
        case measure => simp [intOf]; omega
      | true =>
        have hD : tabsF (many + (thrF (v + m * 4096 - 1) 0 + 1 - max (thrF v 0) n0)) (thrF (v + m * 4096 - 1) 0 + 1) n1 (xs.drop (i + 1)) = RV := HD.out
        have HLv : Hid (∀ W, Calls Tryz.prog 34 #[.bool true] W fun e w' => e = .returned (.int .i64 1) ∧ w' = W) := fun W => leafLevel_any true W
        obtain ⟨s, hs⟩ : ∃ s, v + m * 4096 = s := ⟨_, rfl⟩
        rw [hs] at hD HEn0 HZr g01 g02 g03 g11 g12 g13 z4 hvs
        have hs' : 1 ≤ s := by omega
        obtain ⟨s1, hs1⟩ : ∃ s1, s - 1 = s1 := ⟨_, rfl⟩
        rw [hs1] at hD g01 g02 g03 g11 g12 g13
        have wS : IntKind.u64.wrap ((s : Int) - 1) = (s1 : Int) := by rw [IntKind.wrap_u64]; omega
        have HT1s := Lib.hid (HT1o.out.imp id (fun h => Nat.lt_of_lt_of_le h (show t ≤ s by omega)))
        obtain ⟨q0, hq0⟩ : ∃ q, thrF v 0 = q := ⟨_, rfl⟩
        obtain ⟨r0, hr0⟩ : ∃ r, thrF s1 0 = r := ⟨_, rfl⟩
        have gq0 : v / 1073741824 = q0 := hq0
        have gr0 : s1 / 1073741824 = r0 := hr0
        rw [hq0, hr0] at hD
        rw [gq0, gr0] at g01
        rw [gr0] at g02 g03
        have gk0 : r0 + 1 ≤ 512 := by rw [← gr0]; omega
        obtain ⟨k0, hk0⟩ : ∃ k, r0 + 1 = k := ⟨_, rfl⟩
        obtain ⟨f0, hf0⟩ : ∃ f, max q0 n0 = f := ⟨_, rfl⟩
        rw [hk0, hf0] at hD g01
        rw [hk0] at g02 g03 gk0
        obtain ⟨d0, hd0⟩ : ∃ d, k0 - f0 = d := ⟨_, rfl⟩
        rw [hd0] at hD
        have wK0 : IntKind.u64.wrap ((r0 : Int) + 1) = (k0 : Int) := by rw [IntKind.wrap_u64]; omega
        have wD0 : IntKind.u64.wrap ((k0 : Int) - (f0 : Int)) = (d0 : Int) := by rw [IntKind.wrap_u64]; omega
        have HT0 : Hid (∀ W, Calls Tryz.prog 56 #[.int .u64 (v : Int), .int .i64 0] W fun e w' => e = .returned (.int .u64 (q0 : Int)) ∧ w' = W) := fun W => by rw [← hq0]; exact through_any v 0 (by omega) W
        have HE0 : Hid (∀ W, Calls Tryz.prog 56 #[.int .u64 (s1 : Int), .int .i64 0] W fun e w' => e = .returned (.int .u64 (r0 : Int)) ∧ w' = W) := fun W => by rw [← hr0]; exact through_any s1 0 (by omega) W
        have HG0 := Lib.hid g02
        have HI0 : Hid (n0 ≤ k0 ∧ k0 ≤ 512 ∧ f0 ≤ k0 ∧ n0 ≤ f0 ∧ k0 - f0 = d0) := ⟨g03, gk0, g01, by omega, hd0⟩
        have HM0 := Lib.hid hf0
        clear hq0 hr0 gq0 gr0 hk0 hf0 hd0 gk0
        have HEn := HEn0
        have HZs := Lib.hid z4
        obtain ⟨M0, hM0⟩ : ∃ M, many + d0 = M := ⟨_, rfl⟩
        rw [hM0] at hD
        have wM0 : IntKind.u64.wrap ((many : Int) + (d0 : Int)) = (M0 : Int) := by rw [IntKind.wrap_u64]; have := HI0.out; omega
        have HMy : Hid (M0 ≤ 1 + k0 + n1) := by have := HI0.out; show M0 ≤ 1 + k0 + n1; omega
        have HT1 : Hid (n1 = 0 ∨ (n1 - 1) * 2097152 < s) := HT1s
        clear hM0
        have HDD := Lib.hid hD
        clear hD HEn0 HD hs z4 hvs g01 g02 g03 g11 g12 g13 z1 ht hs1 hs'
        go_wp2_with fail
        refine (HLv.out _).mono ?_
        rintro e w8 ⟨rfl, hw8⟩
        have hw8 := hw8.symm
        subst hw8
        have HN1 := Lib.hid (HNx.out.below HBl.out)
        have HB1 := Lib.hid (HB.out.trans (HBl.out.mono HB.out.size))
        have HSz : Hid (w.heap.size ≤ wr.heap.size) := HB.out.size
        have hXN : wr.heap.size ≠ w.heap.size := Nat.ne_of_gt HNx.out.lt
        clear HBl HB HNx c0 c1 c2 c3 c4 c5
        generalize (wr.alloc (.cells #[.int .u64 (v : Int), .int .u64 (p : Int), .int .i64 (m : Int), .bool true, .bool xw, .bool xe] 26)) = w1 at *
        generalize wr.heap.size = X at *
        obtain ⟨c0, c1, c2, c3, c4, c5⟩ := HL1.out.cells
        simp only at c0 c1 c2 c3 c4 c5
        go_wp2_with fail
        refine wp_loop_rounds 2 ?_
        clear c0 c1 c2 c3 c4 c5
        rw [rounds_succ]
        obtain ⟨c0, c1, c2, c3, c4, c5⟩ := HL1.out.cells
        simp only at c0 c1 c2 c3 c4 c5
        obtain ⟨m0, m1⟩ := HN1.out.cells
        go_wp2_with fail
        go_region_held3 (fun w' => w'.cell? ⟨X, 0, none⟩ = some (.int .u64 (v : Int)) ∧ w'.cell? ⟨w.heap.size, 0, none⟩ = some (.int .u64 (n0 : Int))) (go_keep) (first | (go_at_call 56; refine (HT0.out _).mono ?_; rintro e w9 ⟨rfl, hw9⟩; have hw9 := hw9.symm; subst hw9) | (rw [if_pos (by rfl)]; refine wp_max 24 27 _ rfl rfl rfl HM0.out ?_))
        have hd1 : LfAt w1.drew X ⟨v, p, (m : Int), true, xw, xe⟩ := HL1.out
        have hd2 : NxAt w1.drew w.heap.size n0 n1 := HN1.out
        have hd3 : Below w.heap.size w w1.drew := HB1.out.drew
        have HL := Lib.hid hd1
        have HNn := Lib.hid hd2
        have HB := Lib.hid hd3
        clear hd1 hd2 hd3 HL1 HN1 HB1 c0 c1 c2 c3 c4 c5 m0 m1
        generalize w1.drew = wd1 at *
        obtain ⟨c0, c1, c2, c3, c4, c5⟩ := HL.out.cells
        simp only at c0 c1 c2 c3 c4 c5
        go_wp2_with fail
        refine (HEn.out _).mono ?_
        rintro e w2 ⟨rfl, hb⟩
        have HL2 := Lib.hid (HL.out.below hb)
        have HN2 := Lib.hid (HNn.out.below hb)
        have HB2 := Lib.hid (HB.out.trans (hb.mono HB.out.size))
        clear hb HL HNn HB c0 c1 c2 c3 c4 c5
        obtain ⟨m0, m1⟩ := HN2.out.cells
        have f0' := HN2.out.free 0
        have f1' := HN2.out.free 1
        go_wp2_with fail
        refine (HE0.out _).mono ?_
        rintro e w3 ⟨rfl, hw9⟩
        have hw9 := hw9.symm
        subst hw9
        have HL3 : Hid (LfAt (w2.setCell ⟨w.heap.size, 0, none⟩ (.int .u64 (k0 : Int))) X ⟨v, p, (m : Int), true, xw, xe⟩) := (Below.heap_setCell _ _ _ _ hXN).trans HL2.out
        have HN3 : Hid (NxAt (w2.setCell ⟨w.heap.size, 0, none⟩ (.int .u64 (k0 : Int))) w.heap.size k0 n1) := HN2.out.put0
        have HB3 : Hid (Below w.heap.size w (w2.setCell ⟨w.heap.size, 0, none⟩ (.int .u64 (k0 : Int)))) := HB2.out.setCell (Nat.le_refl _) _
        go_wp2_with fail
        clear HL2 HN2 HB2 m0 m1 f0' f1'
        generalize (w2.setCell ⟨w.heap.size, 0, none⟩ (.int .u64 (k0 : Int))) = w3 at *
        rw [rounds_succ]
        go_wp2_with fail
        go_roundw
        case rel => exact ⟨i + 1, s, k0, n1, M0, by omega, rfl, rfl, HMy.out, by have := HI0.out; omega, hn1, HG0.out, HT1.out, HDD, HZr, HN3, HB3⟩
        case measure => simp [intOf]; omega
    · obtain rfl : i = n := by omega
      have HF : Hid (many = RV) := by
        have := HE.out
        rw [List.drop_eq_nil_of_le (by rw [HN.out]; exact Nat.le_refl _)] at this
        exact this
      have hwm : IntKind.i64.wrap (many : Int) = (many : Int) := by rw [IntKind.wrap_i64]; omega
      go_wp2_with fail
      go_ret
      exact ⟨by rw [← HF.out]; rfl, HB.out⟩
end Go.Proofs.YtlplbbnicfeoaaaGreat
/- Pages: Count of any rows; what Build refuses. Own work. -/
namespace Go.Proofs.YtlplbbnicfeoaaaGreat
open Go.RowKit Wk
set_option linter.unusedVariables false
/-- what Count answers -/
def countF (xs : List L6) : Nat × Int := if refuF 0 xs ≠ 0 then (0, refuF 0 xs) else if 1024 < tabsF 1 0 0 xs then (0, 4) else (tabsF 1 0 0 xs, 0)
theorem countF_le (xs : List L6) : (countF xs).1 ≤ 1024 := by
  unfold countF
  split
  · exact Nat.zero_le _
  · split
    · exact Nat.zero_le _
    · show tabsF 1 0 0 xs ≤ 1024
      omega
set_option maxRecDepth 100000 in
set_option maxHeartbeats 4000000 in
theorem count_any {w : World} {v : Value} {xs : List L6} (h : Lv w v xs) : Calls Tryz.prog 12 #[v] w fun e w' => e = .returned (.tuple #[.int .i64 ((countF xs).1 : Int), .int .i64 (countF xs).2]) ∧ Below w.heap.size w w' := by
  have HR := Lib.hid h
  have HRf := Lib.hid (prefusal_any h)
  have HTb : Hid (∀ W, Lv W v xs → refuF 0 xs = 0 → Calls Tryz.prog 30 #[v] W fun e w' => e = .returned (.int .i64 (tabsF 1 0 0 xs : Int)) ∧ Below W.heap.size W w') := fun W hW hz => tables_any hW hz
  clear h
  unfold countF
  obtain ⟨er, her⟩ : ∃ e, refuF 0 xs = e := ⟨_, rfl⟩
  obtain ⟨k, hk⟩ : ∃ k, tabsF 1 0 0 xs = k := ⟨_, rfl⟩
  rw [her] at HRf HTb ⊢
  rw [hk] at HTb ⊢
  clear her hk
  by_cases h0 : er = 0
  · subst h0
    rw [if_neg (by decide)]
    by_cases h1 : 1024 < k
    · rw [if_pos h1]
      have j1 : (1024 : Int) < (k : Int) := by omega
      clear h1
      go_enter Tryz.func12, Tryz.ntmps12
      go_wp2_with fail
      refine HRf.out.mono ?_
      rintro e w1 ⟨rfl, hb⟩
      have HB1 := Lib.hid hb
      clear hb HRf
      go_wp2_with fail
      refine (HTb.out _ (HR.out.below HB1.out) (by trivial)).mono ?_
      rintro e w2 ⟨rfl, hb⟩
      have HB := Lib.hid (HB1.out.trans (hb.mono HB1.out.size))
      clear hb
      go_wp2_with fail
      go_ret2
      exact ⟨rfl, HB.out⟩
    · rw [if_neg h1]
      have j1 : ¬ (1024 : Int) < (k : Int) := by omega
      clear h1
      go_enter Tryz.func12, Tryz.ntmps12
      go_wp2_with fail
      refine HRf.out.mono ?_
      rintro e w1 ⟨rfl, hb⟩
      have HB1 := Lib.hid hb
      clear hb HRf
      go_wp2_with fail
      refine (HTb.out _ (HR.out.below HB1.out) (by trivial)).mono ?_
      rintro e w2 ⟨rfl, hb⟩
      have HB := Lib.hid (HB1.out.trans (hb.mono HB1.out.size))
      clear hb
      go_wp2_with fail
      go_ret2
      exact ⟨rfl, HB.out⟩
  · rw [if_pos h0]
    go_enter Tryz.func12, Tryz.ntmps12
    go_wp2_with fail
    refine HRf.out.mono ?_
    rintro e w1 ⟨rfl, hb⟩
    have HB1 := Lib.hid hb
    clear hb HRf
    go_wp2_with fail
    go_ret2
    exact ⟨rfl, HB1.out⟩
/-- why Build makes nothing -/
def whyF (xs : List L6) (base : Nat) : Int := if (countF xs).2 ≠ 0 then (countF xs).2 else if base % 4096 ≠ 0 then 33 else if winB base (countF xs).1 4294967296 = false then 34 else 0
set_option maxRecDepth 100000 in
set_option maxHeartbeats 4000000 in
theorem build_no {w : World} {v : Value} {xs : List L6} {base : Nat} (h : Lv w v xs) (hb : base ≤ 18446744073709551615) (hy : whyF xs base ≠ 0) : Calls Tryz.prog 5 #[v, .int .u64 (base : Int)] w fun e w' => e = .returned (.tuple #[.slice none 0 0, .int .i64 (whyF xs base)]) ∧ Below w.heap.size w w' := by
  have HC := Lib.hid (count_any h)
  have hk := countF_le xs
  unfold whyF at hy ⊢
  generalize countF xs = z at *
  obtain ⟨k, er⟩ := z
  simp only at hk HC hy ⊢
  have HW := Lib.hid fun (W : World) => pwithin_any (a := base) (p := k) (bound := 4294967296) hb (by omega) (by omega) W
  by_cases h0 : er = 0
  · subst h0
    rw [if_neg (by decide)] at hy ⊢
    by_cases h1 : base % 4096 ≠ 0
    · rw [if_pos h1] at hy ⊢
      have j1 : ¬ ((base : Int) % 4096 = 0) := by omega
      have j2 : ((base : Int) % 4096 != 0) = true := bne_iff_ne.2 j1
      clear h1 hy
      go_enter Tryz.func5, Tryz.ntmps5
      go_wp2_with fail
      refine HC.out.mono ?_
      rintro e w1 ⟨rfl, hb1⟩
      have HB1 := Lib.hid hb1
      clear hb1 HC
      go_wp2_with fail
      go_ret2
      exact ⟨rfl, HB1.out⟩
    · rw [if_neg h1] at hy ⊢
      have j1 : (base : Int) % 4096 = 0 := by omega
      have j2 : ((base : Int) % 4096 != 0) = false := by rw [j1]; rfl
      cases hw : winB base k 4294967296 with
      | true =>
        rw [if_neg (by rw [hw]; decide)] at hy
        exact absurd rfl hy
      | false =>
        rw [if_pos rfl]
        rw [hw] at HW
        clear h1 hy hw
        go_enter Tryz.func5, Tryz.ntmps5
        go_wp2_with fail
        refine HC.out.mono ?_
        rintro e w1 ⟨rfl, hb1⟩
        have HB1 := Lib.hid hb1
        clear hb1 HC
        go_wp2_with fail
        refine (HW.out _).mono ?_
        rintro e w2 ⟨rfl, hw⟩
        subst hw
        go_wp2_with fail
        go_ret2
        exact ⟨rfl, HB1.out⟩
  · rw [if_pos h0]
    clear hy
    go_enter Tryz.func5, Tryz.ntmps5
    go_wp2_with fail
    refine HC.out.mono ?_
    rintro e w1 ⟨rfl, hb1⟩
    have HB1 := Lib.hid hb1
    clear hb1 HC
    go_wp2_with fail
    go_ret2
    exact ⟨rfl, HB1.out⟩
end Go.Proofs.YtlplbbnicfeoaaaGreat
