import Derived.Test.YtdkhhofgfbnmkaaGreatPk05
import Derived.Test.YtdkhhofgfbnmkaaGreatPk26
import Derived.Test.YtdkhhofgfbnmkaaGreatPk14
import Derived.Test.YtdkhhofgfbnmkaaGreatPk15
/- The script that comes in. Own work. -/
namespace Go.Proofs.YtdkhhofgfbnmkaaGreat
open Go.RowKit Go.ChangeShapes Go.WideShapes Go.Proofs.YtdkhhofgfbnmkaaGreat.Sp
theorem five_is {α : Type} {cs : List α} {x0 x1 x2 x3 x4 : α} (h : cs.length = 5) (h0 : (cs.drop 0).take 1 = [x0]) (h1 : (cs.drop 1).take 1 = [x1]) (h2 : (cs.drop 2).take 1 = [x2]) (h3 : (cs.drop 3).take 1 = [x3]) (h4 : (cs.drop 4).take 1 = [x4]) : cs = [x0, x1, x2, x3, x4] := by
  match cs, h with
  | [a, b, c, d, e], _ => simp_all
section
variable {H : Type} {enc : TypeId × Value → H} {W : World} {base : Nat} {held : Bool}
set_option maxRecDepth 100000 in
theorem oslice_place {r : Reach} {b : Nat} {a : Addr} {len cap : Nat} (h : Cell.okWide Tryz.prog W r b 26 (.slice (some a) len cap)) : a.spot = none ∧ a.block < W.heap.size := by
  simp only [Cell.okWide, Cell.ok, Tryz.underlying26, World.has] at h
  obtain ⟨_, _, _, h1, row, cells, h2, _⟩ := h
  refine ⟨h1, ?_⟩
  unfold World.shape? at h2
  by_cases hlt : a.block < W.heap.size
  · exact hlt
  · rw [Array.getElem?_eq_none (by omega)] at h2
    simp at h2
theorem op1_opened {fuel : Nat} {cs : List Value} {x : DataW H × List MemPlace} (h : DataW.trod enc Tryz.prog W base (fun _ => true) held fuel 36 cs = some x) :
    ∃ y : Op5, cs = [.int .i64 y.1, .int .u64 (y.2.1 : Int), .int .u64 (y.2.2.1 : Int), .int .u64 (y.2.2.2.1 : Int), .int .i64 y.2.2.2.2] ∧ y.2.1 ≤ 18446744073709551615 ∧ y.2.2.1 ≤ 18446744073709551615 ∧ y.2.2.2.1 ≤ 18446744073709551615 := by
  obtain ⟨xs, n, _, _, hl, hlen, hf⟩ := DataW.trod_struct Tryz.underlying36 h
  have hlen2 : xs.length = 5 := hlen
  obtain ⟨y0, e0⟩ : ∃ y, xs[0]? = some y := ⟨xs[0], List.getElem?_eq_getElem (by omega)⟩
  obtain ⟨y1, e1⟩ : ∃ y, xs[1]? = some y := ⟨xs[1], List.getElem?_eq_getElem (by omega)⟩
  obtain ⟨y2, e2⟩ : ∃ y, xs[2]? = some y := ⟨xs[2], List.getElem?_eq_getElem (by omega)⟩
  obtain ⟨y3, e3⟩ : ∃ y, xs[3]? = some y := ⟨xs[3], List.getElem?_eq_getElem (by omega)⟩
  obtain ⟨y4, e4⟩ : ∃ y, xs[4]? = some y := ⟨xs[4], List.getElem?_eq_getElem (by omega)⟩
  obtain ⟨a, ha, _, wa⟩ := DataW.trod_int Tryz.underlying3 ((hf 0 _ rfl).trans e0)
  obtain ⟨b, hb, _, wb⟩ := DataW.trod_int Tryz.underlying34 ((hf 1 _ rfl).trans e1)
  obtain ⟨c, hc, _, wc⟩ := DataW.trod_int Tryz.underlying34 ((hf 2 _ rfl).trans e2)
  obtain ⟨d, hd, _, wd⟩ := DataW.trod_int Tryz.underlying34 ((hf 3 _ rfl).trans e3)
  obtain ⟨e, he, _, we⟩ := DataW.trod_int Tryz.underlying3 ((hf 4 _ rfl).trans e4)
  have c6 : Tryz.prog.cellsOf 34 = 1 := by kernel_rfl
  have c3 : Tryz.prog.cellsOf 3 = 1 := by kernel_rfl
  have cS : Tryz.prog.cellsOf 36 = 5 := by kernel_rfl
  change List.take (Tryz.prog.cellsOf 3) (List.drop 0 cs) = _ at ha
  change List.take (Tryz.prog.cellsOf 34) (List.drop 1 cs) = _ at hb
  change List.take (Tryz.prog.cellsOf 34) (List.drop 2 cs) = _ at hc
  change List.take (Tryz.prog.cellsOf 34) (List.drop 3 cs) = _ at hd
  change List.take (Tryz.prog.cellsOf 3) (List.drop 4 cs) = _ at he
  rw [c6] at hb hc hd
  rw [c3] at ha he
  have bb := u64_in wb
  have bc := u64_in wc
  have bd := u64_in wd
  obtain ⟨b, rfl⟩ : ∃ n : Nat, b = (n : Int) := ⟨b.toNat, by omega⟩
  obtain ⟨c, rfl⟩ : ∃ n : Nat, c = (n : Int) := ⟨c.toNat, by omega⟩
  obtain ⟨d, rfl⟩ : ∃ n : Nat, d = (n : Int) := ⟨d.toNat, by omega⟩
  exact ⟨(a, b, c, d, e), five_is (by rw [hl, cS]) ha hb hc hd he, by dsimp only; omega, by dsimp only; omega, by dsimp only; omega⟩
set_option maxRecDepth 100000 in
theorem ops_opened {fuel : Nat} {cs : List Value} {x : DataW H × List MemPlace} (hok : ∀ v, cs = [v] → ∃ (r : Reach) (b : Nat), Cell.okWide Tryz.prog W r b 26 v) (h : DataW.trod enc Tryz.prog W base (fun _ => true) held fuel 26 cs = some x) : ∃ v os, cs = [v] ∧ OpsAt W.heap.size W v os ∧ (∀ o ∈ os, o.2.1 ≤ 18446744073709551615 ∧ o.2.2.1 ≤ 18446744073709551615 ∧ o.2.2.2.1 ≤ 18446744073709551615) ∧ (os.length = 0 ∨ ∃ el sp, x.1 = .slice el sp ∧ os.length = el.length) := by
  rcases Go.Deep.open_slice Tryz.underlying26 h with ⟨rfl, _⟩ | ⟨a, len, cap, m, n, D, Pl, rfl, _, hl, hm, hmm, rfl, hx⟩
  · exact ⟨_, [], rfl, ⟨none, 0, rfl, Nat.le_refl _, Nat.zero_le _, fun j h => by simp at h⟩, fun _ h => (by cases h), .inl rfl⟩
  · have cS : Tryz.prog.cellsOf 36 = 5 := by kernel_rfl
    rw [cS] at hx
    have hmc : m = cap := by simpa using hmm
    obtain ⟨r, b0, hc0⟩ := hok _ rfl
    obtain ⟨hsp, hlt⟩ := oslice_place hc0
    haveI : Inhabited Op5 := ⟨(0, 0, 0, 0, 0)⟩
    obtain ⟨F, hF⟩ := Go.Deep.choose_lt (α := Op5) (n := len) (p := fun i y => (y.2.1 ≤ 18446744073709551615 ∧ y.2.2.1 ≤ 18446744073709551615 ∧ y.2.2.2.1 ≤ 18446744073709551615) ∧ ∀ j v, ([.int .i64 y.1, .int .u64 (y.2.1 : Int), .int .u64 (y.2.2.1 : Int), .int .u64 (y.2.2.2.1 : Int), .int .i64 y.2.2.2.2] : List Value)[j]? = some v → W.cell? ((a.add (i * 5)).add j) = some v) (fun i hi => by
      obtain ⟨cs', h1, h2⟩ := hx i (by omega)
      obtain ⟨y, rfl, hb⟩ := op1_opened h2
      obtain ⟨_, _, hc⟩ := World.cells?_some h1
      refine ⟨y, hb, fun j v hj => ?_⟩
      rw [hc j (by have := (List.getElem?_eq_some_iff.1 hj).1; simpa using this)]
      exact hj)
    obtain ⟨b, o, sp⟩ := a
    simp only at hsp hlt
    subst hsp
    refine ⟨_, (List.range len).map F, rfl, ⟨some ⟨b, o, none⟩, cap, by simp, by simpa using hl, hm, fun i hi => ?_⟩, fun y hy => ?_, .inr ⟨_, _, rfl, by simp⟩⟩
    · have hi' : i < len := by simpa using hi
      obtain ⟨_, hc⟩ := hF i hi'
      have hget : ((List.range len).map F)[i] = F i := by simp
      rw [hget]
      simp only [Go.WideShapes.add_plain] at hc
      exact ⟨b, o, rfl, hlt, hc 0 _ rfl, hc 1 _ rfl, hc 2 _ rfl, hc 3 _ rfl, hc 4 _ rfl⟩
    · obtain ⟨i, hi, rfl⟩ := List.mem_map.1 hy
      exact (hF i (by simpa using hi)).1
end
end Go.Proofs.YtdkhhofgfbnmkaaGreat
/- Translate and reached over a machine whose Loads and Stores are told exactly. Own work. -/
namespace Go.Proofs.YtdkhhofgfbnmkaaGreat
open Go.RowKit Go.Maps Go.Proofs.YtdkhhofgfbnmkaaGreat.Sp Wk
/-- a machine: its Loads, its Stores; its Strays are at most n -/
def My (w : World) (m B : Nat) (V : Value × Value × Value) (T : Nat → Option Nat) (M : Nat → Nat) (rs ds : List Sp) (L S n : Nat) : Prop := ∃ X, X ≤ n ∧ Mac w m B V T M rs ds L S X
section
variable {w w' : World} {m B : Nat} {V : Value × Value × Value} {T : Nat → Option Nat} {M : Nat → Nat} {rs ds : List Sp} {L S n k : Nat}
theorem My.mono (h : My w m B V T M rs ds L S n) (hk : n ≤ k) : My w m B V T M rs ds L S k := by
  obtain ⟨X, h3, h4⟩ := h
  exact ⟨X, by omega, h4⟩
theorem My.keeps {Z : Nat → Prop} (h : My w m B V T M rs ds L S n) (hk : Keeps Z w w') (hn : ∀ j, Mine m B V T j → ¬ Z j) : My w' m B V T M rs ds L S n := by
  obtain ⟨X, h3, h4⟩ := h
  exact ⟨X, h3, h4.keeps hk hn⟩
theorem My.below (h : My w m B V T M rs ds L S n) (hb : Below w.heap.size w w') : My w' m B V T M rs ds L S n :=
  h.keeps (Keeps.of_below (S := fun _ => False) hb) (fun _ _ h => h)
theorem My.lt (h : My w m B V T M rs ds L S n) : m < w.heap.size := by
  obtain ⟨X, _, h4⟩ := h
  exact h4.lt
theorem My.mine_lt (h : My w m B V T M rs ds L S n) {j : Nat} (hj : Mine m B V T j) : j < w.heap.size := by
  obtain ⟨X, _, h4⟩ := h
  exact h4.mine_lt hj
theorem My.sane (h : My w m B V T M rs ds L S n) : Sane (rs ++ ds) := by
  obtain ⟨X, _, h4⟩ := h
  exact h4.sane
end
set_option maxRecDepth 100000 in
set_option maxHeartbeats 4000000 in
theorem translate_y {w : World} {m B : Nat} {V : Value × Value × Value} {T : Nat → Option Nat} {M : Nat → Nat} {rs ds : List Sp} {L S n t v : Nat} {acc : Int} (h : My w m B V T M rs ds L S n) (ht : t ≤ 18446744073709551615) (hv : v ≤ 18446744073709551615) (hn : n ≤ 4611686018427387904) :
    Calls Tryz.prog 20 #[MemV m, .int .u64 (t : Int), .int .u64 (v : Int), .int .i64 acc] w fun e w' => e = .returned (.tuple #[.int .u64 ((adrF (rs ++ ds) M t v acc).1 : Int), FaultV (adrF (rs ++ ds) M t v acc).2 (whyAt (adrF (rs ++ ds) M t v acc).2 v : Int)]) ∧ Hid (My w' m B V T M rs ds L S (n + 1)) ∧ Hid (Keeps (fun j => j = m) w w') := by
  have HX : Hid (My w m B V T M rs ds L S n) := h
  have hml := h.lt
  obtain ⟨r, hr⟩ : ∃ r, r = adrF (rs ++ ds) M t v acc := ⟨_, rfl⟩
  have HZ : Hid (r.2 ≠ 0 → r.1 = 0) := by rw [hr]; exact adrF_zero
  have HA : Hid (Calls Tryz.prog 43 #[MemV m, .int .u64 (t : Int), .int .u64 (v : Int), .int .i64 acc] (w.alloc (Obj.cells #[.int .i64 0, .int .u64 0] 57)) fun e w' => e = .returned (.tuple #[.int .u64 (r.1 : Int), .int .i64 r.2]) ∧ Hid (My w' m B V T M rs ds L S (n + 1)) ∧ Hid (Keeps (fun j => j = m) (w.alloc (Obj.cells #[.int .i64 0, .int .u64 0] 57)) w')) := by
    obtain ⟨X, h3, h4⟩ := h
    refine (address_any (h4.below ((Below.refl _ _).alloc (Nat.le_refl _) _)) ht hv (by omega)).mono ?_
    rintro e w' ⟨r', b, rfl, ha, hm, hk⟩
    rw [addr_is ha, ← hr]
    exact ⟨rfl, ⟨up b X, by cases b <;> simp [up] <;> omega, hm⟩, hk⟩
  rw [← hr]
  unfold MemV at HA ⊢
  clear h hr
  obtain ⟨r1, r2⟩ := r
  simp only at HZ HA ⊢
  by_cases h0 : r2 = 0
  · subst h0
    go_enter Tryz.func20, Tryz.ntmps20
    go_wp2_with fail
    refine HA.out.mono ?_
    rintro e w1 ⟨rfl, HM1, HK1⟩
    have HX1 : Hid (BoxF w1 w.heap.size 0 0) := (BoxF.new w 0 0).keeps HK1.out (by omega)
    obtain ⟨x0, x1, f0, f1⟩ := HX1.out.cells
    clear HA
    go_wp2_with fail
    obtain ⟨d0, d1, _⟩ := (HX1.out.set 0 0).cells
    refine bodyPost_ret (v := .tuple #[.int .u64 (r1 : Int), .agg #[.int .i64 0, .int .u64 0]]) (by simp [results, Tryz.results20, go_sem, d0, d1]) rfl ?_
    have hk2 := Keeps.two w1 w.heap.size (.int .i64 0) (.int .u64 0)
    have hk1 : Keeps (fun j => j = m) w w1 := (Keeps.alloc (S := fun j => j = m) w _).trans HK1.out (fun _ _ e => e)
    exact ⟨rfl, HM1.out.keeps hk2 (fun j hj e => by have := HX.out.mine_lt hj; omega), hk1.trans hk2 (fun i hi e => absurd e (by omega))⟩
  · have h1 := HZ.out h0
    subst h1
    have HW : Hid (whyAt r2 v = v) := if_neg h0
    have h0e : (r2 == 0) = false := by simpa using h0
    go_enter Tryz.func20, Tryz.ntmps20
    go_wp2_with fail
    refine HA.out.mono ?_
    rintro e w1 ⟨rfl, HM1, HK1⟩
    have HX1 : Hid (BoxF w1 w.heap.size 0 0) := (BoxF.new w 0 0).keeps HK1.out (by omega)
    obtain ⟨x0, x1, f0, f1⟩ := HX1.out.cells
    clear HA
    go_wp2_with fail
    obtain ⟨d0, d1, _⟩ := (HX1.out.set r2 v).cells
    refine bodyPost_ret (v := .tuple #[.int .u64 0, .agg #[.int .i64 r2, .int .u64 (v : Int)]]) (by simp [results, Tryz.results20, go_sem, d0, d1]) rfl ?_
    have hk2 := Keeps.two w1 w.heap.size (.int .i64 r2) (.int .u64 (v : Int))
    have hk1 : Keeps (fun j => j = m) w w1 := (Keeps.alloc (S := fun j => j = m) w _).trans HK1.out (fun _ _ e => e)
    exact ⟨by rw [HW.out]; rfl, HM1.out.keeps hk2 (fun j hj e => by have := HX.out.mine_lt hj; omega), hk1.trans hk2 (fun i hi e => absurd e (by omega))⟩
set_option maxRecDepth 100000 in
set_option maxHeartbeats 8000000 in
theorem reached_y {w : World} {m B : Nat} {V : Value × Value × Value} {T : Nat → Option Nat} {M : Nat → Nat} {rs ds : List Sp} {L S n t v k : Nat} {acc : Int} (h : My w m B V T M rs ds L S n) (ht : t ≤ 18446744073709551615) (hn : n ≤ 4611686018427380000) (hk : Wide k) :
    Calls Tryz.prog 49 #[MemV m, .int .u64 (t : Int), .int .u64 (v : Int), .int .i64 (k : Int), .int .i64 acc] w fun e w' => ReachP w (rs ++ ds) M t v acc k e w' ∧ Hid (My w' m B V T M rs ds L S (n + 16)) ∧ Hid (Keeps (fun j => j = m) w w') := by
  have HM : Hid (My w m B V T M rs ds L S n) := h
  have hml := h.lt
  have k1 : 1 ≤ k := by rcases hk with h | h | h | h <;> omega
  have k8 : k ≤ 8 := by rcases hk with h | h | h | h <;> omega
  have HTr : Hid (∀ W i, i < k → My W m B V T M rs ds L S (n + i) → Calls Tryz.prog 20 #[MemV m, .int .u64 (t : Int), .int .u64 (vv v i : Int), .int .i64 acc] W fun e w' => e = .returned (.tuple #[.int .u64 ((ad (rs ++ ds) M t v acc i).1 : Int), FaultV (ad (rs ++ ds) M t v acc i).2 (whyAt (ad (rs ++ ds) M t v acc i).2 (vv v i) : Int)]) ∧ Hid (My w' m B V T M rs ds L S (n + i + 1)) ∧ Hid (Keeps (fun j => j = m) W w')) := fun W i hi hW => translate_y hW ht (by unfold vv; omega) (by omega)
  have HPk : Hid (∀ W i, i < k → ∀ a : Nat, a ≤ 18446744073709551615 → My W m B V T M rs ds L S (n + k + i) → Calls Tryz.prog 140 #[.pointer (some ⟨m, 0, none⟩), .int .u64 (a : Int), .int .i64 1] W fun e w' => ∃ x b z, e = .returned (.tuple #[.int .u64 z, FaultV (if b then 30 else 0) x]) ∧ Hid (b = true ↔ ¬ On (rs ++ ds) (a : Int)) ∧ Hid (My w' m B V T M rs ds L S (n + k + i + 1)) ∧ Hid (Keeps (fun j => j = m) W w')) := fun W i hi a ha ⟨X, h3, h4⟩ => by
    refine (peek_any (n := 1) h4 ha (Or.inl rfl) (by omega)).mono ?_
    rintro e w' ⟨x, b, ho, rfl, hm, hk⟩
    refine ⟨x, b, _, rfl, ?_, ⟨up b X, by cases b <;> simp [up] <;> omega, hm⟩, hk⟩
    cases b with
    | true =>
      obtain ⟨i, hi, _, _, hn, _⟩ := ho.1 rfl
      obtain rfl : i = 0 := by omega
      exact ⟨fun _ => by simpa using hn, fun _ => rfl⟩
    | false =>
      have := (ho.2 rfl).2 0 (by omega)
      exact ⟨fun h => (by cases h), fun h => absurd (by simpa using this) h⟩
  have HAd : Hid (∀ i, (ad (rs ++ ds) M t v acc i).1 ≤ 18446744073709551615) := fun i => adrF_le _ _ _ _ _
  have hme : ∀ (w : World) (p : Option Addr), (method 319 28 (.pointer p) "Peek").run Tryz.prog w = .ok (140, .pointer p) w := fun _ _ => by kernel_rfl
  generalize rs ++ ds = LL at *
  obtain ⟨i, hi, hz0, hz1, hz2⟩ := info_parts info_u64a
  have HIf : Hid (Tryz.prog.info? 34 = some i ∧ i.zero = some (.int .u64 0) ∧ i.size = 1 ∧ i.bytes = 8) := ⟨hi, hz0, hz1, hz2⟩
  have HK : Hid (Wide k) := hk
  have HX0 : Hid (BoxF (w.alloc (Obj.cells #[.int .i64 0, .int .u64 0] 57)) w.heap.size 0 0) := BoxF.new w 0 0
  unfold MemV at HTr ⊢
  clear hi hz0 hz1 hz2 hk h
  go_enter Tryz.func49, Tryz.ntmps49
  go_upto_block 0 with fail
  go_cut [] (fun wx => wx = w.alloc (Obj.cells #[.int .i64 0, .int .u64 0] 57))
  case first =>
    rcases HK.out with rfl | rfl | rfl | rfl
    · go_wp2_with fail
      go_meet
      exact rfl
    · go_wp2_with fail
      go_meet
      exact rfl
    · go_wp2_with fail
      go_meet
      exact rfl
    · go_wp2_with fail
      go_meet
      exact rfl
  case rest =>
    have hcut := hcut.symm
    subst hcut
    go_wp2_with (at_make; refine wpList_make_full _ rfl _ _ 109 rfl w.heap.size 34 i (.int .u64 0) 1 Tryz.underlying109 HIf.out.1 HIf.out.2.1 HIf.out.2.2.1 _ _ _ _ k rfl rfl (by omega) (by omega) (by rw [HIf.out.2.2.2]; omega) (by simp only [maxLen]; omega) (by simp) ?_)
    intro w1 hown hgrow
    have HR1 : Hid (RowA w1 (w.heap.size + 1) (upA LL M t v acc k 0)) := by rw [upA_zero]; exact madeA hown
    have hb1 : Below (w.heap.size + 1) (w.alloc (Obj.cells #[.int .i64 0, .int .u64 0] 57)) w1 := (Below.refl _ _).grown hgrow (by simp) (by simp)
    have HX1 : Hid (BoxF w1 w.heap.size 0 0) := (hb1.block w.heap.size (Nat.lt_succ_self _)).trans HX0.out
    have hbw : Below w.heap.size w w1 := ((Below.refl _ _).alloc (Nat.le_refl _) _).trans (hb1.mono (Nat.le_succ _))
    have HM1 : Hid (My w1 m B V T M rs ds L S n) := HM.out.below hbw
    have HK1 : Hid (Keeps (fun j => j = m) w w1) := Keeps.of_below hbw
    clear hown hgrow hb1 hbw HX0 HIf
    go_wp2_with fail
    go_loopw [36] (fun iv wr => ∃ q : Nat, q ≤ k ∧ iv = .int .i64 (q : Int) ∧ Hid (RowA wr (w.heap.size + 1) (upA LL M t v acc k q)) ∧ Hid (BoxF wr w.heap.size 0 0) ∧ Hid (My wr m B V T M rs ds L S (n + q)) ∧ Hid (Keeps (fun j => j = m) w wr) ∧ Hid (∀ j, j < q → (ad LL M t v acc j).2 = 0)) (fun iv _ => k - (intOf iv).toNat)
    case atStart => exact ⟨0, Nat.zero_le _, rfl, HR1, HX1, HM1, HK1, fun j hj => absurd hj (Nat.not_lt_zero _)⟩
    case round =>
      clear HR1 HX1 HM1 HK1
      obtain ⟨q, hq, rfl, HR, HXr, HMr, HKr, HZ⟩ := hrel
      by_cases hlt : q < k
      · have HCl := Lib.hid (HTr.out wr q hlt HMr.out)
        have hwv : IntKind.u64.wrap ((v : Int) + (q : Int)) = (vv v q : Int) := by rw [IntKind.wrap_u64, vv]; omega
        have HUp : Hid ((upA LL M t v acc k q).set q (ad LL M t v acc q).1 = upA LL M t v acc k (q + 1)) := upA_step _ _ _ _ _ _ _
        have HBad : Hid ((ad LL M t v acc q).2 ≠ 0 → reachF LL M t v acc k = some ((ad LL M t v acc q).2, vv v q)) := fun h => reach_tr HZ.out h hlt
        have HGo : Hid ((ad LL M t v acc q).2 = 0 → ∀ j, j < q + 1 → (ad LL M t v acc j).2 = 0) := fun h j hj => by
          by_cases e : j = q
          · rw [e]; exact h
          · exact HZ.out j (by omega)
        generalize ad LL M t v acc q = r at *
        obtain ⟨r1, r2⟩ := r
        simp only at HCl HUp HBad HGo
        generalize hx : vv v q = x at *
        clear hx
        go_wp2_with fail
        refine HCl.out.mono ?_
        rintro e w2 ⟨rfl, HM2, HK2⟩
        have hm1 : m < w.heap.size := hml
        have HX2 : Hid (BoxF w2 w.heap.size 0 0) := HXr.out.keeps HK2.out (by omega)
        have HR2 : Hid (RowA w2 (w.heap.size + 1) (upA LL M t v acc k q)) := HR.out.keeps HK2.out (by omega)
        have HKw2 : Hid (Keeps (fun j => j = m) w w2) := HKr.out.trans HK2.out (fun _ _ e => e)
        have hlt2 := HR2.out.lt
        clear HCl HK2
        unfold FaultV
        by_cases h0 : r2 = 0
        · subst h0
          obtain ⟨c0, hc0⟩ : ∃ c0, (upA LL M t v acc k q)[q]'(by rw [upA_len]; exact hlt) = c0 := ⟨_, rfl⟩
          have y0 := (HR2.out.below ((Below.refl _ _).alloc (Nat.le_refl _) (Obj.cells #[.int .i64 0, .int .u64 (whyAt 0 x : Int)] 57))).cell q (by rw [upA_len]; exact hlt)
          have y1 := (HR2.out.below ((Below.refl _ _).alloc (Nat.le_refl _) (Obj.cells #[.int .i64 0, .int .u64 (whyAt 0 x : Int)] 57))).thawed q
          rw [hc0] at y0
          clear hc0
          have qi : (q : Int) < (k : Int) := by omega
          generalize (whyAt 0 x : Int) = wa at *
          go_wp2_with fail
          go_roundw
          case rel =>
            have hk3 : Keeps (fun j => j = w.heap.size + 1) w2 (w2.setCell ⟨w.heap.size + 1, q, none⟩ (.int .u64 (r1 : Int))) := Keeps.setCell _ _ _ _
            have hb4 : Below (w2.setCell ⟨w.heap.size + 1, q, none⟩ (.int .u64 (r1 : Int))).heap.size (w2.setCell ⟨w.heap.size + 1, q, none⟩ (.int .u64 (r1 : Int))) ((w2.setCell ⟨w.heap.size + 1, q, none⟩ (.int .u64 (r1 : Int))).alloc (Obj.cells #[.int .i64 0, .int .u64 wa] 57)) := (Below.refl _ _).alloc (Nat.le_refl _) _
            have t1 := (HX2.out.keeps hk3 (show ¬ (w.heap.size = w.heap.size + 1) by omega)).below hb4
            have t2 := (HKw2.out.trans hk3 (fun i hi e => absurd (show i = w.heap.size + 1 from e) (Nat.ne_of_lt (Nat.lt_succ_of_lt hi)))).trans (Keeps.of_below (S := fun _ => False) hb4) (fun _ _ h => h.elim)
            refine ⟨q + 1, by omega, by go_num, ?_, t1, (HM2.out.keeps hk3 (fun j hj e => ?_)).below hb4, t2, HGo.out (by trivial)⟩
            · have := (HR2.out.set q r1).below hb4
              rw [HUp.out] at this
              exact this
            · have := HM.out.mine_lt hj
              have e : j = w.heap.size + 1 := e
              omega
          case measure => simp [intOf]; omega
        · have h0e : (r2 == 0) = false := by simpa using h0
          have HRc := HBad.out h0
          have hwx : whyAt r2 x = x := if_neg h0
          rw [hwx]
          obtain ⟨W3, hW3⟩ : ∃ W3, w2.alloc (Obj.cells #[.int .i64 r2, .int .u64 (x : Int)] 57) = W3 := ⟨_, rfl⟩
          have HF3 : Hid (BoxF W3 w2.heap.size r2 x) := hW3 ▸ BoxF.new w2 r2 x
          have HX3 : Hid (BoxF W3 w.heap.size 0 0) := hW3 ▸ HX2.out.below ((Below.refl _ _).alloc (Nat.le_refl _) _)
          have HB3 : Hid (Below w2.heap.size w2 W3) := hW3 ▸ (Below.refl _ _).alloc (Nat.le_refl _) _
          have hne : w.heap.size ≠ w2.heap.size := by omega
          obtain ⟨x0, x1, f0, f1⟩ := HX3.out.cells
          obtain ⟨y0, y1, _, _⟩ := HF3.out.cells
          go_wp2_with fail
          clear hW3
          go_region_held3 (fun w' => w'.cell? ⟨w2.heap.size, 0, none⟩ = some (.int .i64 r2) ∧ w'.cell? ⟨w2.heap.size, 1, none⟩ = some (.int .u64 (x : Int))) (go_keep) (fail)
          go_wp2_with fail
          obtain ⟨d0, d1, _⟩ := BoxF.cells (w := ((W3.setCell ⟨w.heap.size, 0, none⟩ (.int .i64 r2)).setCell ⟨w.heap.size, 1, none⟩ (.int .u64 (x : Int))).drew) (HX3.out.set r2 x)
          refine bodyPost_ret (v := .tuple #[.slice none 0 0, .agg #[.int .i64 r2, .int .u64 (x : Int)]]) (by simp [results, Tryz.results49, go_sem, d0, d1]) rfl ?_
          have hk2 : Keeps (fun j => j = w.heap.size) W3 (((W3.setCell ⟨w.heap.size, 0, none⟩ (.int .i64 r2)).setCell ⟨w.heap.size, 1, none⟩ (.int .u64 (x : Int))).drew) := (Keeps.two W3 w.heap.size (.int .i64 r2) (.int .u64 (x : Int))).drew
          exact ⟨.inl ⟨r2, x, HRc, rfl⟩, ((HM2.out.mono (by omega)).below HB3.out).keeps hk2 (fun j hj e => by have := HM.out.mine_lt hj; omega), (HKw2.out.trans (Keeps.of_below (S := fun _ => False) HB3.out) (fun _ _ h => h.elim)).trans hk2 (fun i hi e => absurd e (by omega))⟩
      · obtain rfl : q = k := by omega
        obtain ⟨w2, hw2⟩ : ∃ w2, w2 = wr := ⟨_, rfl⟩
        subst hw2
        clear HTr hlt hq
        go_wp2_with fail
        go_loopw [61] (fun iv wr => ∃ p : Nat, p ≤ q ∧ iv = .int .i64 (p : Int) ∧ Hid (RowA wr (w.heap.size + 1) (upA LL M t v acc q q)) ∧ Hid (BoxF wr w.heap.size 0 0) ∧ Hid (My wr m B V T M rs ds L S (n + q + p)) ∧ Hid (Keeps (fun j => j = m) w wr) ∧ Hid (∀ j, j < p → On LL ((ad LL M t v acc j).1 : Int))) (fun iv _ => q - (intOf iv).toNat)
        case atStart => exact ⟨0, Nat.zero_le _, rfl, HR, HXr, HMr, HKr, fun j hj => absurd hj (Nat.not_lt_zero _)⟩
        case round =>
          clear HR HXr HMr HKr
          obtain ⟨p, hp, rfl, HR, HXr, HMr, HKr, HO⟩ := hrel
          by_cases hlt : p < q
          · have y0 := HR.out.cell p (by rw [upA_len]; exact hlt)
            rw [upA_get _ _ _ _ _ _ _ hlt] at y0
            have HCl := Lib.hid (HPk.out wr p hlt (ad LL M t v acc p).1 (HAd.out p) HMr.out)
            have HOff : Hid (¬ On LL ((ad LL M t v acc p).1 : Int) → reachF LL M t v acc q = some (30, vv v p)) := fun h => reach_off HZ.out HO.out h hlt
            have HGo : Hid (On LL ((ad LL M t v acc p).1 : Int) → ∀ j, j < p + 1 → On LL ((ad LL M t v acc j).1 : Int)) := fun h j hj => by
              by_cases e : j = p
              · rw [e]; exact h
              · exact HO.out j (by omega)
            generalize (ad LL M t v acc p).1 = r1 at *
            have qi : (p : Int) < (q : Int) := by omega
            go_wp2_with fail
            refine HCl.out.mono ?_
            rintro e w3 ⟨x, b, z, rfl, HBo, HM3, HK3⟩
            have hm1 : m < w.heap.size := hml
            have HX3 : Hid (BoxF w3 w.heap.size 0 0) := HXr.out.keeps HK3.out (by omega)
            have HR3 : Hid (RowA w3 (w.heap.size + 1) (upA LL M t v acc q q)) := HR.out.keeps HK3.out (by omega)
            have HKw3 : Hid (Keeps (fun j => j = m) w w3) := HKr.out.trans HK3.out (fun _ _ e => e)
            have hlt3 := HR3.out.lt
            clear HCl HK3 y0
            unfold FaultV
            cases b with
            | false =>
              have hon : On LL (r1 : Int) := by
                by_cases h : On LL (r1 : Int)
                · exact h
                · have := HBo.out.2 h; cases this
              have HGo2 := Lib.hid (HGo.out hon)
              simp only [Bool.false_eq_true, if_false]
              have HB4 : Hid (Below w3.heap.size w3 (w3.alloc (Obj.cells #[.int .i64 0, .int .u64 x] 57))) := (Below.refl _ _).alloc (Nat.le_refl _) _
              clear hon HGo HOff HBo
              go_wp2_with fail
              go_roundw
              case rel => exact ⟨p + 1, by omega, by go_num, HR3.out.below HB4.out, HX3.out.below HB4.out, HM3.out.below HB4.out, HKw3.out.trans (Keeps.of_below (S := fun _ => False) HB4.out) (fun _ _ h => h.elim), HGo2⟩
              case measure => simp [intOf]; omega
            | true =>
              have HRc := HOff.out (HBo.out.1 rfl)
              simp only [if_true]
              have HB4 : Hid (Below w3.heap.size w3 (w3.alloc (Obj.cells #[.int .i64 30, .int .u64 x] 57))) := (Below.refl _ _).alloc (Nat.le_refl _) _
              have HSt := Lib.hid (stray_any (v := v) (i := p) (w3.alloc (Obj.cells #[.int .i64 30, .int .u64 x] 57)) (by omega))
              clear HGo HOff HBo
              go_wp2_with fail
              refine HSt.out.mono ?_
              rintro e w5 ⟨rfl, hb5⟩
              have HB5 : Hid (Below w3.heap.size w3 w5) := HB4.out.trans (hb5.mono HB4.out.size)
              have HX5 : Hid (BoxF w5 w.heap.size 0 0) := HX3.out.below HB5.out
              obtain ⟨x0, x1, f0, f1⟩ := HX5.out.cells
              clear hb5 HSt
              unfold FaultV
              generalize vv v p = y at *
              go_wp2_with fail
              obtain ⟨d0, d1, _⟩ := (HX5.out.set 30 y).cells
              refine bodyPost_ret (v := .tuple #[.slice none 0 0, .agg #[.int .i64 30, .int .u64 (y : Int)]]) (by simp [results, Tryz.results49, go_sem, d0, d1]) rfl ?_
              have hk2 := Keeps.two w5 w.heap.size (.int .i64 30) (.int .u64 (y : Int))
              exact ⟨.inl ⟨30, y, HRc, rfl⟩, ((HM3.out.mono (by omega)).below HB5.out).keeps hk2 (fun j hj e => by have := HM.out.mine_lt hj; omega), (HKw3.out.trans (Keeps.of_below (S := fun _ => False) HB5.out) (fun _ _ h => h.elim)).trans hk2 (fun i hi e => absurd e (by omega))⟩
          · obtain rfl : p = q := by omega
            have HOk : Hid (reachF LL M t v acc p = none) := reach_ok HZ.out HO.out
            obtain ⟨x0, x1, f0, f1⟩ := HXr.out.cells
            go_wp2_with fail
            obtain ⟨d0, d1, _⟩ := (HXr.out.set 0 0).cells
            refine bodyPost_ret (v := .tuple #[.slice (some ⟨w.heap.size + 1, 0, none⟩) p p, .agg #[.int .i64 0, .int .u64 0]]) (by simp [results, Tryz.results49, go_sem, d0, d1]) rfl ?_
            have hk2 := Keeps.two wr w.heap.size (.int .i64 0) (.int .u64 0)
            exact ⟨.inr ⟨HOk.out, fun j hj => ⟨HZ.out j hj, HO.out j hj⟩, w.heap.size + 1, rfl, by omega, HR.out.keeps hk2 (by omega)⟩, (HMr.out.mono (by omega)).keeps hk2 (fun j hj e => by have := HM.out.mine_lt hj; omega), HKr.out.trans hk2 (fun i hi e => absurd e (by omega))⟩
end Go.Proofs.YtdkhhofgfbnmkaaGreat
/- take over a machine whose Loads and Stores are told exactly. Own work. -/
namespace Go.Proofs.YtdkhhofgfbnmkaaGreat
open Go.RowKit Go.Maps Go.Proofs.YtdkhhofgfbnmkaaGreat.Sp Wk
theorem My.small {w : World} {m B : Nat} {V : Value × Value × Value} {T : Nat → Option Nat} {M : Nat → Nat} {rs ds : List Sp} {L S n : Nat} (h : My w m B V T M rs ds L S n) : ∀ p, M p < 256 := by
  obtain ⟨X, _, h4⟩ := h
  exact h4.held.2.2.2.2.1
/-- how many bytes are loaded -/
noncomputable def tkC (LL : List Sp) (M : Nat → Nat) (t v : Nat) (acc : Int) (k : Nat) : Nat := match reachF LL M t v acc k with | some _ => 0 | none => k
set_option maxRecDepth 100000 in
set_option maxHeartbeats 8000000 in
theorem take_y {w : World} {m B : Nat} {V : Value × Value × Value} {T : Nat → Option Nat} {M : Nat → Nat} {rs ds : List Sp} {L S n t v k : Nat} {acc : Int} (h : My w m B V T M rs ds L S n) (hL : L ≤ 4611686018427380000) (ht : t ≤ 18446744073709551615) (hn : n ≤ 4611686018427370000) (hk : Wide k) :
    Calls Tryz.prog 35 #[MemV m, .int .u64 (t : Int), .int .u64 (v : Int), .int .i64 (k : Int), .int .i64 acc] w fun e w' => e = .returned (.tuple #[.int .u64 ((takeV (rs ++ ds) M t v acc k).1 : Int), FaultV (takeV (rs ++ ds) M t v acc k).2.1 ((takeV (rs ++ ds) M t v acc k).2.2 : Int)]) ∧ Hid (My w' m B V T M rs ds (L + tkC (rs ++ ds) M t v acc k) S (n + 32)) ∧ Hid (Keeps (fun j => j = m) w w') := by
  have HM : Hid (My w m B V T M rs ds L S n) := h
  have hml := h.lt
  have k8 : k ≤ 8 := by rcases hk with h | h | h | h <;> omega
  have HSm : Hid (∀ p, M p < 256) := h.small
  have HRe : Hid (Calls Tryz.prog 49 #[MemV m, .int .u64 (t : Int), .int .u64 (v : Int), .int .i64 (k : Int), .int .i64 acc] (w.alloc (Obj.cells #[.int .i64 0, .int .u64 0] 57)) fun e w' => ReachP (w.alloc (Obj.cells #[.int .i64 0, .int .u64 0] 57)) (rs ++ ds) M t v acc k e w' ∧ Hid (My w' m B V T M rs ds L S (n + 16)) ∧ Hid (Keeps (fun j => j = m) (w.alloc (Obj.cells #[.int .i64 0, .int .u64 0] 57)) w')) := reached_y (h.below ((Below.refl _ _).alloc (Nat.le_refl _) _)) ht (by omega) hk
  have HLd : Hid (∀ W i, i < k → ∀ a : Nat, a ≤ 18446744073709551615 → On (rs ++ ds) (a : Int) → My W m B V T M rs ds (L + i) S (n + 16 + i) → Calls Tryz.prog 139 #[.pointer (some ⟨m, 0, none⟩), .int .u64 (a : Int), .int .i64 1] W fun e w' => e = .returned (.tuple #[.int .u64 ((M a : Nat) : Int), FaultV 0 0]) ∧ Hid (My w' m B V T M rs ds (L + (i + 1)) S (n + 16 + i + 1)) ∧ Hid (Keeps (fun j => j = m) W w')) := fun W i hi a ha hon ⟨X, h3, h4⟩ => by
    refine (load_any (n := 1) h4 ha (Or.inl rfl) (by omega) (by omega)).mono ?_
    rintro e w' ⟨x, b, ho, rfl, hm, hk⟩
    cases b with
    | true =>
      obtain ⟨i, hi, _, _, hn, _⟩ := ho.1 rfl
      obtain rfl : i = 0 := by omega
      exact absurd (by simpa using hon) hn
    | false =>
      have hx := (ho.2 rfl).1
      subst hx
      rw [num_one]
      exact ⟨rfl, ⟨X, by omega, hm⟩, hk⟩
  have HAd : Hid (∀ i, (ad (rs ++ ds) M t v acc i).1 ≤ 18446744073709551615) := fun i => adrF_le _ _ _ _ _
  have hme : ∀ (w : World) (p : Option Addr), (method 319 28 (.pointer p) "Load").run Tryz.prog w = .ok (139, .pointer p) w := fun _ _ => by kernel_rfl
  generalize rs ++ ds = LL at *
  have HX0 : Hid (BoxF (w.alloc (Obj.cells #[.int .i64 0, .int .u64 0] 57)) w.heap.size 0 0) := BoxF.new w 0 0
  unfold MemV at HRe ⊢
  clear hk h
  go_enter Tryz.func35, Tryz.ntmps35
  go_wp2_with fail
  refine HRe.out.mono ?_
  rintro e w1 ⟨hP, HM1, HK1⟩
  have HX1 : Hid (BoxF w1 w.heap.size 0 0) := HX0.out.keeps HK1.out (by omega)
  have HKw1 : Hid (Keeps (fun j => j = m) w w1) := (Keeps.alloc (S := fun j => j = m) w _).trans HK1.out (fun _ _ e => e)
  have hlt1 := HX1.out.lt
  clear HRe HX0 HK1
  rcases hP with ⟨why, x, hre, rfl⟩ | ⟨hre, hall, g, rfl, hg, hrow⟩
  · have HV : Hid (takeV LL M t v acc k = (0, why, x)) := by show _ = _; rw [takeV, hre]
    have HC : Hid (tkC LL M t v acc k = 0) := by show _ = _; rw [tkC, hre]
    have h0 := reach_why hre
    have h0e : (why == 0) = false := by simpa using h0
    obtain ⟨W3, hW3⟩ : ∃ W3, w1.alloc (Obj.cells #[.int .i64 why, .int .u64 (x : Int)] 57) = W3 := ⟨_, rfl⟩
    have HF3 : Hid (BoxF W3 w1.heap.size why x) := hW3 ▸ BoxF.new w1 why x
    have HX3 : Hid (BoxF W3 w.heap.size 0 0) := hW3 ▸ HX1.out.below ((Below.refl _ _).alloc (Nat.le_refl _) _)
    have HB3 : Hid (Below w1.heap.size w1 W3) := hW3 ▸ (Below.refl _ _).alloc (Nat.le_refl _) _
    have hne : w.heap.size ≠ w1.heap.size := by omega
    obtain ⟨x0, x1, f0, f1⟩ := HX3.out.cells
    obtain ⟨y0, y1, _, _⟩ := HF3.out.cells
    unfold FaultV
    clear hre
    go_wp2_with fail
    clear hW3
    go_region_held3 (fun w' => w'.cell? ⟨w1.heap.size, 0, none⟩ = some (.int .i64 why) ∧ w'.cell? ⟨w1.heap.size, 1, none⟩ = some (.int .u64 (x : Int))) (go_keep) (fail)
    go_wp2_with fail
    obtain ⟨d0, d1, _⟩ := BoxF.cells (w := ((W3.setCell ⟨w.heap.size, 0, none⟩ (.int .i64 why)).setCell ⟨w.heap.size, 1, none⟩ (.int .u64 (x : Int))).drew) (HX3.out.set why x)
    refine bodyPost_ret (v := .tuple #[.int .u64 0, .agg #[.int .i64 why, .int .u64 (x : Int)]]) (by simp [results, Tryz.results35, go_sem, d0, d1]) rfl ?_
    have hk2 : Keeps (fun j => j = w.heap.size) W3 (((W3.setCell ⟨w.heap.size, 0, none⟩ (.int .i64 why)).setCell ⟨w.heap.size, 1, none⟩ (.int .u64 (x : Int))).drew) := (Keeps.two W3 w.heap.size (.int .i64 why) (.int .u64 (x : Int))).drew
    exact ⟨by rw [HV.out]; rfl, HC.out.symm ▸ ((HM1.out.mono (by omega)).below HB3.out).keeps hk2 (fun j hj e => by have := HM.out.mine_lt hj; omega), (HKw1.out.trans (Keeps.of_below (S := fun _ => False) HB3.out) (fun _ _ h => h.elim)).trans hk2 (fun i hi e => absurd e (by omega))⟩
  · have HV : Hid (takeV LL M t v acc k = (takeN LL M t v acc k, 0, 0)) := by show _ = _; rw [takeV, hre]
    have HC : Hid (tkC LL M t v acc k = k) := by show _ = _; rw [tkC, hre]
    have HAll : Hid (∀ j, j < k → (ad LL M t v acc j).2 = 0 ∧ On LL ((ad LL M t v acc j).1 : Int)) := hall
    have HRw : Hid (RowA w1 g (upA LL M t v acc k k)) := hrow
    have hgl : w.heap.size < g ∧ g < w1.heap.size := ⟨by simp at hg; omega, hrow.lt⟩
    obtain ⟨hg1, hg2⟩ := hgl
    clear hre hall hrow hg
    unfold FaultV
    go_wp2_with fail
    obtain ⟨W2, hW2⟩ : ∃ W2, (w1.alloc (Obj.cells #[.int .i64 0, .int .u64 0] 57)).alloc (Obj.cells #[.int .u8 0, .int .u8 0, .int .u8 0, .int .u8 0, .int .u8 0, .int .u8 0, .int .u8 0, .int .u8 0] 129) = W2 := ⟨_, rfl⟩
    have HB2 : Hid (Below w1.heap.size w1 W2) := hW2 ▸ ((Below.refl _ _).alloc (Nat.le_refl _) _).alloc (by simp) _
    have HR2 : Hid (RowT W2 129 (w1.heap.size + 1) (upB LL M t v acc 0)) := by rw [← hW2, upB_zero]; exact heap_alloc_new' (by simp) _
    rw [hW2]
    have s8 := slice8_all
    have HX2 : Hid (BoxF W2 w.heap.size 0 0) := HX1.out.below HB2.out
    have HRw2 : Hid (RowA W2 g (upA LL M t v acc k k)) := HRw.out.below HB2.out
    have HM2 : Hid (My W2 m B V T M rs ds (L + 0) S (n + 16)) := HM1.out.below HB2.out
    have HKw2 : Hid (Keeps (fun j => j = m) w W2) := HKw1.out.trans (Keeps.of_below (S := fun _ => False) HB2.out) (fun _ _ h => h.elim)
    clear hW2 HX1 HRw HM1 HKw1
    generalize hgb : w1.heap.size + 1 = gb at *
    have hgb2 : g < gb := by omega
    clear hgb
    go_loopw [36] (fun iv wr => ∃ q : Nat, q ≤ k ∧ iv = .int .i64 (q : Int) ∧ Hid (RowA wr g (upA LL M t v acc k k)) ∧ Hid (RowT wr 129 gb (upB LL M t v acc q)) ∧ Hid (BoxF wr w.heap.size 0 0) ∧ Hid (My wr m B V T M rs ds (L + q) S (n + 16 + q)) ∧ Hid (Keeps (fun j => j = m) w wr)) (fun iv _ => k - (intOf iv).toNat)
    case atStart => exact ⟨0, Nat.zero_le _, rfl, HRw2, HR2, HX2, HM2, HKw2⟩
    case round =>
      clear HRw2 HR2 HX2 HM2 HKw2
      obtain ⟨q, hq, rfl, HRw, HR, HXr, HMr, HKr⟩ := hrel
      by_cases hlt : q < k
      · have y0 := HRw.out.cell q (by rw [upA_len]; exact hlt)
        rw [upA_get _ _ _ _ _ _ _ hlt] at y0
        have HCl := Lib.hid (HLd.out wr q hlt (ad LL M t v acc q).1 (HAd.out q) (HAll.out q hlt).2 HMr.out)
        have HUp : Hid ((upB LL M t v acc q).set q (M (ad LL M t v acc q).1) = upB LL M t v acc (q + 1)) := upB_step _ _ _ _ _ _
        have hsm := HSm.out (ad LL M t v acc q).1
        generalize (ad LL M t v acc q).1 = r1 at *
        generalize M r1 = z at *
        have qi : (q : Int) < (k : Int) := by omega
        have q8 : (q : Int) < 8 := by omega
        have q8n : q < 8 := by omega
        have hz8 : IntKind.u8.wrap (z : Int) = (z : Int) := by rw [IntKind.wrap_u8]; omega
        go_wp2_with fail
        refine HCl.out.mono ?_
        rintro e w3 ⟨rfl, HM3, HK3⟩
        have hm1 : m < w.heap.size := hml
        have HX3 : Hid (BoxF w3 w.heap.size 0 0) := HXr.out.keeps HK3.out (by omega)
        have HR3 : Hid (RowT w3 129 gb (upB LL M t v acc q)) := rowT_keeps HR.out HK3.out (by omega)
        have HRw3 : Hid (RowA w3 g (upA LL M t v acc k k)) := HRw.out.keeps HK3.out (by omega)
        have HKw3 : Hid (Keeps (fun j => j = m) w w3) := HKr.out.trans HK3.out (fun _ _ e => e)
        have hlt3 := rowT_lt HR3.out
        obtain ⟨c0, hc0⟩ : ∃ c0, (upB LL M t v acc q)[q]'(by rw [upB_len]; exact q8n) = c0 := ⟨_, rfl⟩
        have u0 := rowT_cell (rowT_below HR3.out ((Below.refl _ _).alloc (Nat.le_refl _) (Obj.cells #[.int .i64 0, .int .u64 0] 57))) q (by rw [upB_len]; exact q8n)
        have u1 := rowT_thawed (rowT_below HR3.out ((Below.refl _ _).alloc (Nat.le_refl _) (Obj.cells #[.int .i64 0, .int .u64 0] 57))) q
        rw [hc0] at u0
        clear HCl HK3 y0 hc0
        unfold FaultV
        go_wp2_with fail
        go_roundw
        case rel =>
          have hk3 : Keeps (fun j => j = gb) w3 (w3.setCell ⟨gb, q, none⟩ (.int .u8 ((z : Nat) : Int))) := Keeps.setCell _ _ _ _
          have hb4 : Below (w3.setCell ⟨gb, q, none⟩ (.int .u8 ((z : Nat) : Int))).heap.size (w3.setCell ⟨gb, q, none⟩ (.int .u8 ((z : Nat) : Int))) ((w3.setCell ⟨gb, q, none⟩ (.int .u8 ((z : Nat) : Int))).alloc (Obj.cells #[.int .i64 0, .int .u64 0] 57)) := (Below.refl _ _).alloc (Nat.le_refl _) _
          have t1 := (HX3.out.keeps hk3 (show ¬ (w.heap.size = gb) by omega)).below hb4
          have t2 := (HKw3.out.trans hk3 (fun i hi e => absurd (show i = gb from e) (by omega))).trans (Keeps.of_below (S := fun _ => False) hb4) (fun _ _ h => h.elim)
          have t3 := (HRw3.out.keeps hk3 (show ¬ (g = gb) by omega)).below hb4
          have t4 := rowT_below (rowT_set HR3.out q z) hb4
          rw [HUp.out] at t4
          exact ⟨q + 1, by omega, by go_num, t3, t4, t1, (HM3.out.keeps hk3 (fun j hj e => by have := HM.out.mine_lt hj; have e : j = gb := e; omega)).below hb4, t2⟩
        case measure => simp [intOf]; omega
      · obtain rfl : q = k := by omega
        have HGt := Lib.hid (get_u64_yes (rowT_sl HR.out (upB_len _ _ _ _ _ _) (upB_small HSm.out _ _ _ _)) (Nat.le_of_eq (upB_len _ _ _ _ _ _).symm))
        have HNm : Hid (Pl.num 8 (upB LL M t v acc q) = takeN LL M t v acc q) := rfl
        rw [HNm.out] at HGt
        generalize takeN LL M t v acc q = N at *
        obtain ⟨x0, x1, f0, f1⟩ := HXr.out.cells
        go_wp2_with (first | (go_at_call 58; refine HGt.out.mono ?_; rintro e w' ⟨rfl, hw⟩; have hw := hw.symm; subst hw))
        obtain ⟨d0, d1, _⟩ := (HXr.out.set 0 0).cells
        refine bodyPost_ret (v := .tuple #[.int .u64 (N : Int), .agg #[.int .i64 0, .int .u64 0]]) (by simp [results, Tryz.results35, go_sem, d0, d1]) rfl ?_
        have hk2 := Keeps.two wr w.heap.size (.int .i64 0) (.int .u64 0)
        exact ⟨by rw [HV.out]; rfl, HC.out.symm ▸ (HMr.out.mono (by omega)).keeps hk2 (fun j hj e => by have := HM.out.mine_lt hj; omega), HKr.out.trans hk2 (fun i hi e => absurd e (by omega))⟩
end Go.Proofs.YtdkhhofgfbnmkaaGreat
