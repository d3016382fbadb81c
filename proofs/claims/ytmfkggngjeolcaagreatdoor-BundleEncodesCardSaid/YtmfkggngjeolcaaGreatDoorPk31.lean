import Derived.Test.YtmfkggngjeolcaaGreatDoorPk30
import Derived.Test.YtmfkggngjeolcaaGreatDoorPk18
import Derived.Test.YtmfkggngjeolcaaGreatDoorPk26
/- Bundle, the document's own Encode: places. Own work. -/
namespace Go.Proofs.YtmfkggngjeolcaaGreatDoor
open Go.RowKit Bn Ek
set_option linter.unusedVariables false
set_option linter.unusedSimpArgs false
theorem infoNt : (Tryz.prog.info? 3).map (fun i => (i.zero, i.size, i.bytes)) = some (some (.int .i64 0), 1, 8) := by kernel_rfl
/-- the next place -/
theorem plc_take {ls : List Nat} {i : Nat} (h : i < ls.length) : plc 0 160 (ls.take (i + 1)) = ((plc 0 160 (ls.take i)).1 ++ [begD i (plc 0 160 (ls.take i)).2], begD i (plc 0 160 (ls.take i)).2 + ls[i]) := by
  rw [List.take_succ_eq_append_getElem h, plc_snoc, List.length_take, Nat.min_eq_left (Nat.le_of_lt h), Nat.zero_add]
set_option maxRecDepth 100000 in
set_option maxHeartbeats 8000000 in
theorem kplacesX {w : World} {v : Value} {ls : List Nat} (hr : RowG 1 ntE w v ls) (hl : ls.length ≤ 8) (hb : ∀ i, i ≤ ls.length → (plc 0 160 (ls.take i)).2 ≤ 2305843009213693952) (hbe : ∀ (i : Nat) (h : i < ls.length), ls[i] ≤ 2305843009213693952) : Calls Tryz.prog 38 #[v] w fun e w' => ∃ va vc, e = .returned (.tuple #[.slice va ls.length vc, .int .i64 ((plc 0 160 ls).2 : Nat)]) ∧ OwnG 3 1 ntE w' w.heap.size (.slice va ls.length vc) (plc 0 160 ls).1 ∧ Below w.heap.size w w' := by
  have HR : Hid (∀ W, Below w.heap.size w W → RowG 1 ntE W v ls) := fun W hW => hr.below hW
  have HB : Hid (∀ i, i ≤ ls.length → (plc 0 160 (ls.take i)).2 ≤ 2305843009213693952) := hb
  have HBe : Hid (∀ (i : Nat) (h : i < ls.length), ls[i] ≤ 2305843009213693952) := hbe
  obtain ⟨ao, cap, rfl, q1, q2, q3⟩ := hr
  clear q3 hb hbe
  unfold maxLen at q2
  obtain ⟨n, hn⟩ : ∃ n, ls.length = n := ⟨_, rfl⟩
  have HN := Lib.hid hn
  rw [hn] at q1 hl HR HB ⊢
  clear hn
  obtain ⟨R, hR⟩ : ∃ R, plc 0 160 ls = R := ⟨_, rfl⟩
  rw [hR]
  have HRz : Hid (plc 0 160 (ls.take n) = R) := show _ = _ by rw [List.take_of_length_le (by rw [HN.out]; exact Nat.le_refl _), hR]
  clear hR
  have H0 : Hid (OwnG 3 1 ntE w w.heap.size (.slice none 0 0) (plc 0 160 (ls.take 0)).1) := OwnG.nil _ _ _ _ _
  go_enter Tryz.func38, Tryz.ntmps38
  go_wp2_with fail
  go_loopw [4, 5, 6] (fun lv av iv wr => ∃ (i a : Nat) (va : Option Addr) (vc : Nat), i ≤ n ∧ iv = .int .i64 (i : Int) ∧ lv = .slice va i vc ∧ av = .int .i64 (a : Int) ∧ Hid ((plc 0 160 (ls.take i)).2 = a) ∧ Hid (OwnG 3 1 ntE wr w.heap.size (.slice va i vc) (plc 0 160 (ls.take i)).1) ∧ Hid (Below w.heap.size w wr)) (fun _ _ iv _ => n - (intOf iv).toNat)
  case atStart => exact ⟨0, 160, none, 0, Nat.zero_le _, rfl, rfl, rfl, Lib.hid rfl, H0, Lib.hid (Below.refl _ _)⟩
  case round =>
    clear H0
    obtain ⟨i, a, va, vc, hi, rfl, rfl, rfl, HA, HO, HBw⟩ := hrel
    by_cases hin : i < n
    · have ji : (i : Int) < (n : Int) := by omega
      have hix : i < ls.length := by rw [HN.out]; exact hin
      have hw1 : IntKind.i64.wrap ((i : Int) + 1) = ((i + 1 : Nat) : Int) := by rw [IntKind.wrap_i64]; omega
      have ha := HB.out i hi
      rw [HA.out] at ha
      have HT := Lib.hid (plc_take hix)
      rw [HA.out] at HT
      have hle := begD_le i a
      have HAs : Hid ((plc 0 160 (ls.take i)).1.length = i) := show _ = _ by rw [plc_len, List.length_take, Nat.min_eq_left (Nat.le_of_lt hix)]
      generalize (plc 0 160 (ls.take i)).1 = qs at *
      obtain ⟨g, hg⟩ : ∃ g, begD i a = g := ⟨_, rfl⟩
      rw [hg] at HT hle
      have hu8 : Bn.upN a 8 ≤ 4611686018427387904 := by
        unfold Bn.upN
        split <;> omega
      have HU8 := Lib.hid (fun W => kup8 (a := a) (by omega) W)
      have HU4 := Lib.hid (fun W => kup4 (a := Bn.upN a 8) hu8 W)
      have HG : Hid (g = if i = 7 then Bn.upN (Bn.upN a 8) 4096 else Bn.upN a 8) := show _ = _ by rw [← hg]; rfl
      clear hg hu8
      generalize Bn.upN (Bn.upN a 8) 4096 = u4 at *
      generalize Bn.upN a 8 = u8 at *
      obtain ⟨l, hl9⟩ : ∃ l, ls[i] = l := ⟨_, rfl⟩
      have hlb := HBe.out i hix
      rw [hl9] at HT hlb
      have HCl : Hid (∀ W, Below w.heap.size w W → ∃ b of, ao = some ⟨b, of, none⟩ ∧ W.cell? ⟨b, of + i, none⟩ = some (.int .i64 (l : Int))) := fun W hW => by
        obtain ⟨_, _, e', _, _, hc⟩ := HR.out W hW
        simp only [Value.slice.injEq] at e'
        obtain ⟨rfl, e9, rfl⟩ := e'
        obtain ⟨b, of, e, _, hc⟩ := hc i hix
        have := hc 0 (by decide)
        rw [Nat.mul_one, Nat.add_zero] at this
        refine ⟨b, of, e, this.trans ?_⟩
        rw [hl9]
        rfl
      obtain ⟨b, of, rfl, _⟩ := HCl.out _ HBw.out
      replace HCl : Hid (∀ W, Below w.heap.size w W → W.cell? ⟨b, of + i, none⟩ = some (.int .i64 (l : Int))) := fun W hW => by
        obtain ⟨_, _, e, h⟩ := HCl.out W hW
        cases e
        exact h
      clear hl9
      have hsum : IntKind.i64.wrap ((g : Int) + (l : Int)) = ((g + l : Nat) : Int) := by rw [IntKind.wrap_i64]; omega
      obtain ⟨wA, hwA⟩ : ∃ x, x = wr := ⟨_, rfl⟩
      subst hwA
      go_wp2_with fail
      refine (HU8.out _).mono ?_
      rintro e w1 ⟨rfl, hw⟩
      have hw := hw.symm
      subst hw
      go_upto_if 16 with fail
      go_cut [5] (fun y wx => y = .int .i64 (g : Int) ∧ wx = wA)
      case first =>
        by_cases h7 : i = 7
        · have hg := HG.out
          rw [if_pos h7] at hg
          subst hg
          have j7 : ((i : Int) == 7) = true := by simp; omega
          clear h7
          go_wp2_with fail
          refine (HU4.out _).mono ?_
          rintro e w2 ⟨rfl, hw⟩
          have hw := hw.symm
          subst hw
          go_wp2_with fail
          go_meet
          exact ⟨rfl, rfl⟩
        · have hg := HG.out
          rw [if_neg h7] at hg
          subst hg
          have j7 : ((i : Int) == 7) = false := by simp; omega
          clear h7
          go_wp2_with fail
          go_meet
          exact ⟨rfl, rfl⟩
      case rest =>
        obtain ⟨rfl, hw⟩ := hcut
        have hw := hw.symm
        subst hw
        clear HU8 HU4 HG
        obtain ⟨W, hW⟩ : ∃ W, W = wA.alloc (.cells #[.int .i64 (g : Int)] 3) := ⟨_, rfl⟩
        have hlow : Below wA.heap.size wA W := by rw [hW]; exact (Below.refl _ _).alloc (Nat.le_refl _) _
        have HG3 : Hid (W.heap[wA.heap.size]? = some (.cells (ntE g).toArray 3 (0, 0))) := by rw [hW]; exact heap_alloc_new wA _
        have HO3 : Hid (OwnG 3 1 ntE W w.heap.size (.slice va i vc) qs) := HO.out.below hlow
        have HS3 : Hid (w.heap.size ≤ W.heap.size) := Nat.le_trans HBw.out.size hlow.size
        have HB3 : Hid (Below w.heap.size w W) := HBw.out.trans (hlow.mono HBw.out.size)
        subst hW
        clear hlow HO HBw
        go_upto_region 10 with (at_builtin; refine wpList_appG (enc := ntE) (x := g) (xs := qs) rfl 82 3 (.tmp 19) (.tmp 21) rfl 1 8 _ Tryz.underlying82 infoNt (by decide) rfl (by decide) nt_ok (by rfl) HO3.out (by rfl) HG3.out (by rw [HAs.out]; omega) HS3.out ?_; intro va2 vc2 w4 HO4 HG4; rw [HAs.out])
        have HB4 : Hid (Below w.heap.size w w4) := HB3.out.grown HG4.out HS3.out (fun k e => by
          obtain ⟨_, _, _, _, _, hrow⟩ := HO3.out.form
          exact (hrow k e).1)
        have HO5 : Hid (OwnG 3 1 ntE w4 w.heap.size (.slice va2 (i + 1) vc2) (plc 0 160 (ls.take (i + 1))).1) := Lib.hid (by
          have h9 := HO4.out
          rw [HAs.out] at h9
          rw [HT.out]
          exact h9)
        have HA5 : Hid ((plc 0 160 (ls.take (i + 1))).2 = g + l) := Lib.hid (by rw [HT.out])
        have c9 := HCl.out _ HB4.out
        clear HO4 HG4 HO3 HB3 HT HG3 HS3
        go_wp2_with fail
        go_roundw
        case rel => exact ⟨i + 1, g + l, va2, vc2, by omega, rfl, rfl, rfl, HA5, HO5, HB4⟩
        case measure => simp [intOf]; omega
    · obtain rfl : i = n := by omega
      have ji : ¬ (i : Int) < (i : Int) := by omega
      rw [HRz.out] at HA HO
      go_wp2_with fail
      go_ret2
      exact ⟨_, _, by rw [HA.out]; rfl, HO.out, HBw.out⟩
end Go.Proofs.YtmfkggngjeolcaaGreatDoor
/- Bundle, the document's own Encode: the header's first number, behind a constant. Own work. -/
namespace Go.Proofs.YtmfkggngjeolcaaGreatDoor
open Go.RowKit Bn Ek
set_option linter.unusedVariables false
set_option linter.unusedSimpArgs false
theorem run_append_full {w : World} {base g : Nat} {x : Value} {xs ys : List Nat} (ty : TypeId) (hv : Sl w (.slice (some ⟨g, 0, none⟩) xs.length xs.length) xs) (hx : Sl w x ys) (hp : 0 < ys.length) (hb : xs.length + ys.length ≤ 1099511627776) (hbase : base ≤ w.heap.size) :
    ∃ v' w', (Builtin.append_ #[43, 43] ty #[.slice (some ⟨g, 0, none⟩) xs.length xs.length, x]).run Tryz.prog w = .ok v' w' ∧ Own w' base v' (xs ++ ys) ∧ w.grownBy w' none ∧ v'.ownBlock = some w.heap.size := by
  obtain ⟨i, hi, hz0, hz1, hz2⟩ := info_parts info_byte
  obtain ⟨b, o, cap, rfl, h1, h2, h3, h4⟩ := hx.pos hp
  have hold : ∀ j u, (bvs xs)[j]? = some u → w.cell? ((⟨g, 0, none⟩ : Addr).add j) = some u := fun j u hj => by
    have hjl : j < xs.length := by simpa [bvs_length] using (List.getElem?_eq_some_iff.1 hj).1
    rw [bvs_get xs j hjl] at hj
    obtain ⟨ao, cap, e, _, _, _, _, h5⟩ := hv
    obtain ⟨b', o', e', hc⟩ := h5 j hjl
    simp only [Value.slice.injEq] at e
    obtain ⟨rfl, _, _⟩ := e
    cases e'
    rw [Addr.add_lit, hc, hj]
  have hnew : ∀ j u, (bvs ys)[j]? = some u → w.cell? ((⟨b, o, none⟩ : Addr).add j) = some u := fun j u hj => by
    have hjl : j < ys.length := by simpa [bvs_length] using (List.getElem?_eq_some_iff.1 hj).1
    rw [bvs_get ys j hjl] at hj
    rw [Addr.add_lit, h4 j hjl, hj]
  have hr := run_append_grow (P := Tryz.prog) w 43 ty 5 i (.int .u8 0) Tryz.underlying43 hi hz0 ⟨g, 0, none⟩ xs.length xs.length (bvs xs) (by rw [bvs_length, hz1]; omega) hold ⟨b, o, none⟩ ys.length cap (bvs ys) (by rw [bvs_length, hz1]; omega) hnew (by omega) (by omega) (by rw [hz2]; exact growslice_fits (by omega) (by omega))
  have hge := grownCap_ge w (xs.length + ys.length) xs.length 5
  have hle := grownCap_le_maxLen w (xs.length + ys.length) xs.length 5 (by unfold maxLen; omega)
  refine ⟨_, _, hr, ⟨by rw [bvs_length]; omega, .inr ⟨w.heap.size, _, _, by rw [List.length_append], hbase, heap_alloc_new w.drew _, by rw [List.length_append]; exact hge, hle, ?_, ?_⟩⟩, ⟨rfl, rfl, rfl, by simp, fun k hk _ => Below.heap_alloc w.drew _ k hk⟩, rfl⟩
  · simp only [Array.size_append, List.size_toArray, size_zeroCells, bvs_length, Value.cells, hz1]; simp; omega
  · rw [List.append_toArray, Array.toList_append, bvs_append, List.length_append, Nat.mul_one]
    exact List.take_left' (by rw [List.length_append, bvs_length, bvs_length])
theorem step_append_full {w : World} {ops : Array Oper} {o : Oper} {a : Act} {K : Act → World → Prop} {Q : Exit → Act → World → Prop} {E : Prop} (hw : Region.wanted o (yielded ops a.tmps) = true) (s x : Operand)
    (ho : o.op = .call { callee := .builtin .append, args := #[s, x], argTypes := #[43, 43] })
    {base g : Nat} {u : Value} {xs ys : List Nat} (hs : a.eval s = .slice (some ⟨g, 0, none⟩) xs.length xs.length) (hv : Sl w (.slice (some ⟨g, 0, none⟩) xs.length xs.length) xs) (hx : a.eval x = u) (hsl : Sl w u ys) (hp : 0 < ys.length) (hb : xs.length + ys.length ≤ 1099511627776) (hbase : base ≤ w.heap.size)
    (h : ∀ v' w', Own w' base v' (xs ++ ys) → w.grownBy w' none → v'.ownBlock = some w.heap.size → K (a.put o.dst v') w') : if Region.wanted o (yielded ops a.tmps) = true then Oper.wp Tryz.prog o a w K Q else E := by
  rw [if_pos hw]
  obtain ⟨v', w', hr, h2, h3, h4⟩ := run_append_full o.type hv hsl hp hb hbase
  unfold Oper.wp execOp
  simp only [ho, resolve, invoke, builtin, Sem.run_bind, Sem.run_pure, Result.andThen_ok, List.map_toArray, List.map_cons, List.map_nil, hs, hx, hr]
  exact h v' w' h2 h3 h4
set_option maxRecDepth 100000 in
set_option maxHeartbeats 8000000 in
theorem knumF {w : World} {kb g B : Nat} (hb : w.heap[kb]? = some (ldC (.slice (some ⟨g, 0, none⟩) 8 8) 0)) (hs : Sl w (.slice (some ⟨g, 0, none⟩) 8 8) magB) (hB : B ≤ kb) : Calls Tryz.prog 39 #[.pointer (some ⟨kb, 0, none⟩), .int .i64 1, .int .i64 2] w fun e w' => e = .returned (.tuple #[]) ∧ Ld B kb w (numD 2 1 (magB, 0)) w' := by
  have HG : Hid (∀ W, Calls Tryz.prog 84 #[.int .i64 2] W fun e w' => e = .returned (.int .u64 65535) ∧ w' = W) := fun W => rGreatest_any (s := 2) (by decide) W
  have HC : Hid (∀ W, Calls Tryz.prog 42 #[.int .u64 1, .int .i64 2] W fun e w' => ∃ v, e = .returned v ∧ (Own w' W.heap.size v (Pl.le 2 1) ∧ Below W.heap.size W w')) := fun W => rBytes_any (s := 2) (n := 1) (by decide) (by decide) W
  have HE : Hid (Enters Tryz.prog 42) := enters_of Tryz.func42 (by kernel_rfl) rfl
  have c0 := lcell0_of hb
  have f0 := lfree_of hb
  have HB : Hid (w.heap[kb]? = some (ldC (.slice (some ⟨g, 0, none⟩) 8 8) 0)) := hb
  have HS : Hid (∀ W, Below w.heap.size w W → Sl W (.slice (some ⟨g, 0, none⟩) magB.length magB.length) magB) := fun W hW => Sl.keeps (S := fun _ => False) (show Sl w (.slice (some ⟨g, 0, none⟩) magB.length magB.length) magB from hs) (Keeps.of_below hW) (fun _ _ => id)
  have HLt : Hid (kb < w.heap.size) := (Array.getElem?_eq_some_iff.1 hb).1
  have HBk : Hid (B ≤ kb) := hB
  clear hb hs hB
  have hw1 : IntKind.u64.wrap (1 : Int) = 1 := rfl
  have h0 : (numD 2 1 (magB, 0)).2 = 0 := rfl
  have H0 := Lib.hid h0
  clear h0
  go_enter Tryz.func39, Tryz.ntmps39
  go_wp2_with fail
  refine (HG.out _).mono ?_
  rintro e w1 ⟨rfl, hw⟩
  have hw := hw.symm
  subst hw
  go_wp2_with fail
  go_region_law (first
    | (refine step_callQ rfl 42 #[.tmp 29, .tmp 30] #[22, 3] rfl HE.out #[.int .u64 1, .int .i64 2] (by first | (simp [Act.eval]; done) | simp [Act.eval, Act.put]) (HC.out _) ?_; intro u w2 hR; have HB2 : Hid (Below w.heap.size w w2) := (⟨rfl, rfl, rfl, Nat.le_refl _, fun _ _ => rfl⟩ : Below w.heap.size w w.drew).trans hR.2; have hb2 := (HB2.out.block kb HLt.out).trans HB.out; have c02 := lcell0_of hb2; have HSl : Hid (Sl w2 u (Pl.le 2 1)) := hR.1.sl (Pl.le_small _ _); have HBk2 := Lib.hid hb2; clear hR hb2)
    | (refine step_append_full (base := w.heap.size) (xs := magB) rfl (.tmp 27) (.tmp 31) rfl (by rfl) (HS.out _ HB2.out) rfl HSl.out (by rw [Pl.le_length]; decide) (by rw [Pl.le_length]; decide) HB2.out.size ?_; intro v3 w3 h3 g3 l3; have HB3 : Hid (Below w.heap.size w w3) := HB2.out.grown g3 HB2.out.size (fun k e => by cases e); have hb3 := (HB3.out.block kb HLt.out).trans HB.out; have hc3 := lcell0_of hb3; have ht3 := lfree_of hb3; obtain ⟨a3, n3, c3, hv3⟩ : ∃ a m c, v3 = .slice a m c := (by obtain ⟨a, c, e⟩ := own_slice h3; exact ⟨a, _, c, e⟩); subst hv3; have HO3 := Lib.hid h3; have HL3 := Lib.hid l3; have HS2 := Lib.hid HB2.out.size; have HBk3 := Lib.hid hb3; clear h3 g3 l3 hb3))
  all_goals
    go_wp2
    go_end0
    refine ⟨rfl, .slice a3 n3 c3, ?_⟩
    have hlt := HLt.out
    have h9 := HL3.out
    have hsz := HS2.out
    have hne : (Value.slice a3 n3 c3).ownBlock ≠ some kb := by
      rw [h9]
      intro e
      simp only [Option.some.injEq] at e
      omega
    refine ⟨?_, ?_, hne, fun z hz => (List.mem_append.1 hz).elim (fun h => by revert z; decide) (Pl.le_small 2 1 z), .inl rfl, HBk.out, by have := HBk.out; omega, ?_⟩
    · simp only [World.setCell, Array.getElem?_modify]
      rw [if_pos trivial, HBk3.out, H0.out]
      simp [ldC]
    · exact own_low (HO3.out.keeps (Keeps.setCell w3 kb 0 _) (fun k hk e => hne (by rw [hk, e]))) (by have := HBk.out; omega)
    · exact (Fk.of_below HB3.out).trans (Keeps.mono (Keeps.setCell w3 kb 0 _) (fun k _ e => by subst e; exact ⟨HBk.out, .inl ⟨_, HBk3.out⟩⟩))
end Go.Proofs.YtmfkggngjeolcaaGreatDoor
/- Bundle: heavy: few members, or it says so (written by parts/gen_bnhv.py). Own work. -/
namespace Go.Proofs.YtmfkggngjeolcaaGreatDoor
open Go.RowKit Bn
set_option linter.unusedVariables false
set_option linter.unusedSimpArgs false
def rsz : List Gd → Nat
  | [] => 0
  | g :: gs => 1 + g.txt.size + rsz gs
def lsz : List (List (Int × Int)) → Nat
  | [] => 0
  | l :: ls => 1 + l.length + lsz ls
def plsz : List Sc → Nat
  | [] => 0
  | p :: ps => lsz p.lanes + plsz ps
theorem rsz_take : ∀ (xs : List Gd) (i : Nat) (h : i < xs.length), rsz (xs.take (i + 1)) = rsz (xs.take i) + (1 + xs[i].txt.size)
  | x :: xs, 0, h => by simp [rsz]
  | x :: xs, i + 1, h => by
    have := rsz_take xs i (by simpa using h)
    simp [rsz] at this ⊢
    omega
theorem lsz_take : ∀ (xs : List (List (Int × Int))) (i : Nat) (h : i < xs.length), lsz (xs.take (i + 1)) = lsz (xs.take i) + (1 + xs[i].length)
  | x :: xs, 0, h => by simp [lsz]
  | x :: xs, i + 1, h => by
    have := lsz_take xs i (by simpa using h)
    simp [lsz] at this ⊢
    omega
theorem plsz_take : ∀ (xs : List Sc) (i : Nat) (h : i < xs.length), plsz (xs.take (i + 1)) = plsz (xs.take i) + lsz xs[i].lanes
  | x :: xs, 0, h => by simp [plsz]
  | x :: xs, i + 1, h => by
    have := plsz_take xs i (by simpa using h)
    simp [plsz] at this ⊢
    omega
def memI (I : Im) : Nat := I.rams.length + I.devs.length + I.subs.length + I.ports.length + I.chs.length + I.irqs.length + I.plans.length + I.tabs.length
def cntI (I : Im) : Nat := memI I + rsz I.regs + plsz I.plans
theorem gsum_le : ∀ xs : List Gd, gsum xs ≤ 31 * rsz xs
  | [] => Nat.le_refl _
  | g :: gs => by have := gsum_le gs; rw [gsum, rsz]; omega
theorem lsum_le : ∀ xs : List (List (Int × Int)), lsum xs ≤ 8 * lsz xs
  | [] => Nat.le_refl _
  | g :: gs => by have := lsum_le gs; rw [lsum, lsz]; omega
theorem psum_le : ∀ xs : List Sc, psum xs ≤ 8 * xs.length + 8 * plsz xs
  | [] => Nat.le_refl _
  | g :: gs => by have := psum_le gs; have := lsum_le g.lanes; rw [psum, plsz, List.length_cons]; omega
theorem szI_le {I : Im} (h : cntI I < 4000000) : szI I ≤ 20000000000 := by
  have h1 := gsum_le I.regs
  have h2 := psum_le I.plans
  unfold cntI memI at h
  unfold szI
  omega
theorem rsz_mem : ∀ (xs : List Gd) (x : Gd), x ∈ xs → x.txt.size ≤ rsz xs
  | g :: gs, x, h => by
    rcases List.mem_cons.1 h with rfl | h
    · rw [rsz]; omega
    · have := rsz_mem gs x h; rw [rsz]; omega
/-- so many at most that no sum wraps -/
structure ImL (I : Im) : Prop where
  rams : I.rams.length ≤ 1125899906842624
  devs : I.devs.length ≤ 1125899906842624
  subs : I.subs.length ≤ 1125899906842624
  ports : I.ports.length ≤ 1125899906842624
  regs : I.regs.length ≤ 1125899906842624
  chs : I.chs.length ≤ 1125899906842624
  irqs : I.irqs.length ≤ 1125899906842624
  plans : I.plans.length ≤ 1125899906842624
  tabs : I.tabs.length ≤ 1125899906842624
  txt : ∀ x ∈ I.regs, x.txt.size ≤ 1125899906842624
  lanes : ∀ p ∈ I.plans, p.lanes.length ≤ 1125899906842624 ∧ ∀ l ∈ p.lanes, l.length ≤ 1125899906842624
def gdW (x : Gd) : Prop := x.ad ≤ 18446744073709551615 ∧ x.sz ≤ 18446744073709551615 ∧ x.fill ≤ 255
/-- an image that comes in, however long its texts are -/
structure ImW (w : World) (im : List Value) (I : Im) : Prop where
  base : im[0]? = some (.int .u64 (I.base : Int)) ∧ I.base ≤ 18446744073709551615
  rams : ∃ v, im[1]? = some v ∧ RowG 2 rgE w v I.rams ∧ ∀ x ∈ I.rams, rgOk x
  devs : ∃ v, im[2]? = some v ∧ RowG 2 rgE w v I.devs ∧ ∀ x ∈ I.devs, rgOk x
  subs : ∃ v, im[3]? = some v ∧ RowG 6 tnE w v I.subs ∧ ∀ x ∈ I.subs, tnOk x
  ports : ∃ v, im[4]? = some v ∧ RowG 1 poE w v I.ports ∧ ∀ x ∈ I.ports, I64R x
  regs : ∃ v, im[5]? = some v ∧ RowG 4 gdE w v I.regs ∧ ∀ x ∈ I.regs, gdW x
  chs : ∃ v, im[6]? = some v ∧ RowG 5 lkE w v I.chs ∧ ∀ x ∈ I.chs, lkOk x
  irqs : ∃ v, im[7]? = some v ∧ RowG 5 lkE w v I.irqs ∧ ∀ x ∈ I.irqs, lkOk x
  plans : ∃ v, im[8]? = some v ∧ PlG w v I.plans ∧ ∀ x ∈ I.plans, scOk x
  master : im[9]? = some (.int .i64 I.master) ∧ I64R I.master
  start : im[10]? = some (.int .i64 I.start) ∧ I64R I.start
  tabs : ∃ v, im[11]? = some v ∧ TbG w v I.tabs ∧ ∀ x ∈ I.tabs, tbOk x
  len : im.length = 12
  one : im.toArray.all (·.oneCell') = true
  short : ImL I
theorem ImW.below {w w' : World} {im : List Value} {I : Im} (h : ImW w im I) (hb : Below w.heap.size w w') : ImW w' im I := by
  obtain ⟨h1, ⟨v2, a2, b2, c2⟩, ⟨v3, a3, b3, c3⟩, ⟨v4, a4, b4, c4⟩, ⟨v5, a5, b5, c5⟩, ⟨v6, a6, b6, c6⟩, ⟨v7, a7, b7, c7⟩, ⟨v8, a8, b8, c8⟩, ⟨v9, a9, b9, c9⟩, h10, h11, ⟨v12, a12, b12, c12⟩, hl, ho, hs⟩ := h
  exact ⟨h1, ⟨v2, a2, b2.below hb, c2⟩, ⟨v3, a3, b3.below hb, c3⟩, ⟨v4, a4, b4.below hb, c4⟩, ⟨v5, a5, b5.below hb, c5⟩, ⟨v6, a6, b6.below hb, c6⟩, ⟨v7, a7, b7.below hb, c7⟩, ⟨v8, a8, b8.below hb, c8⟩, ⟨v9, a9, b9.below hb, c9⟩, h10, h11, ⟨v12, a12, b12.below hb, c12⟩, hl, ho, hs⟩
theorem ImW.a {w : World} {im : List Value} {I : Im} (h : ImW w im I) (hc : cntI I < 4000000) : ImA w im I := by
  obtain ⟨h1, h2, h3, h4, h5, ⟨v6, a6, b6, c6⟩, h7, h8, h9, h10, h11, h12, hl, ho, hs⟩ := h
  exact ⟨h1, h2, h3, h4, h5, ⟨v6, a6, b6, fun x hx => ⟨(c6 x hx).1, (c6 x hx).2.1, (c6 x hx).2.2, by have := rsz_mem I.regs x hx; unfold cntI at hc; omega⟩⟩, h7, h8, h9, h10, h11, h12, hl, ho⟩
/-- it says no: then there are few -/
def HV (I : Im) (w : World) (e : Ending) (w' : World) : Prop := ∃ r : Bool, e = .returned (.bool r) ∧ (r = false → cntI I < 4000000) ∧ Below w.heap.size w w'
theorem HV.yes {I : Im} {w w' : World} (hb : Below w.heap.size w w') : HV I w (.returned (.bool true)) w' := ⟨true, rfl, (fun h => by cases h), hb⟩
theorem HV.no {I : Im} {w w' : World} (h : cntI I < 4000000) (hb : Below w.heap.size w w') : HV I w (.returned (.bool false)) w' := ⟨false, rfl, (fun _ => h), hb⟩
set_option maxRecDepth 100000 in
set_option maxHeartbeats 8000000 in
theorem heavyX {w : World} {im : List Value} {I : Im} (h : ImW w im I) : Calls Tryz.prog 7 #[.agg im.toArray] w (HV I w) := by
  have HS := Lib.hid h.short
  obtain ⟨z0, z1, z2, z3, z4, z5, z6, z7, z8, z9, z10, z11, rfl⟩ := list12 h.len
  obtain ⟨v1, e1, R1, _⟩ := h.rams
  simp at e1
  subst e1
  obtain ⟨v2, e2, R2, _⟩ := h.devs
  simp at e2
  subst e2
  obtain ⟨v3, e3, R3, _⟩ := h.subs
  simp at e3
  subst e3
  obtain ⟨v4, e4, R4, _⟩ := h.ports
  simp at e4
  subst e4
  obtain ⟨v5, e5, R5, _⟩ := h.regs
  simp at e5
  subst e5
  have H5 := Lib.hid R5
  obtain ⟨v6, e6, R6, _⟩ := h.chs
  simp at e6
  subst e6
  obtain ⟨v7, e7, R7, _⟩ := h.irqs
  simp at e7
  subst e7
  obtain ⟨v8, e8, R8, _⟩ := h.plans
  simp at e8
  subst e8
  have H8 := Lib.hid R8
  obtain ⟨v11, e11, R11, _⟩ := h.tabs
  simp at e11
  subst e11
  clear h
  obtain ⟨a1, c1, rfl, l1, m1, _⟩ := R1
  unfold maxLen at m1
  obtain ⟨n1, q1⟩ : ∃ n, I.rams.length = n := ⟨_, rfl⟩
  have N1 := Lib.hid q1
  have b1 := HS.out.rams
  rw [q1] at b1
  rw [q1] at l1 ⊢
  clear q1 l1 m1
  obtain ⟨a2, c2, rfl, l2, m2, _⟩ := R2
  unfold maxLen at m2
  obtain ⟨n2, q2⟩ : ∃ n, I.devs.length = n := ⟨_, rfl⟩
  have N2 := Lib.hid q2
  have b2 := HS.out.devs
  rw [q2] at b2
  rw [q2] at l2 ⊢
  clear q2 l2 m2
  obtain ⟨a3, c3, rfl, l3, m3, _⟩ := R3
  unfold maxLen at m3
  obtain ⟨n3, q3⟩ : ∃ n, I.subs.length = n := ⟨_, rfl⟩
  have N3 := Lib.hid q3
  have b3 := HS.out.subs
  rw [q3] at b3
  rw [q3] at l3 ⊢
  clear q3 l3 m3
  obtain ⟨a4, c4, rfl, l4, m4, _⟩ := R4
  unfold maxLen at m4
  obtain ⟨n4, q4⟩ : ∃ n, I.ports.length = n := ⟨_, rfl⟩
  have N4 := Lib.hid q4
  have b4 := HS.out.ports
  rw [q4] at b4
  rw [q4] at l4 ⊢
  clear q4 l4 m4
  obtain ⟨a5, c5, rfl, l5, m5, _⟩ := R5
  unfold maxLen at m5
  obtain ⟨n5, q5⟩ : ∃ n, I.regs.length = n := ⟨_, rfl⟩
  have N5 := Lib.hid q5
  have b5 := HS.out.regs
  rw [q5] at b5
  rw [q5] at l5 H5 ⊢
  clear q5 l5 m5
  obtain ⟨a6, c6, rfl, l6, m6, _⟩ := R6
  unfold maxLen at m6
  obtain ⟨n6, q6⟩ : ∃ n, I.chs.length = n := ⟨_, rfl⟩
  have N6 := Lib.hid q6
  have b6 := HS.out.chs
  rw [q6] at b6
  rw [q6] at l6 ⊢
  clear q6 l6 m6
  obtain ⟨a7, c7, rfl, l7, m7, _⟩ := R7
  unfold maxLen at m7
  obtain ⟨n7, q7⟩ : ∃ n, I.irqs.length = n := ⟨_, rfl⟩
  have N7 := Lib.hid q7
  have b7 := HS.out.irqs
  rw [q7] at b7
  rw [q7] at l7 ⊢
  clear q7 l7 m7
  obtain ⟨a8, c8, rfl, l8, m8, _⟩ := R8
  unfold maxLen at m8
  obtain ⟨n8, q8⟩ : ∃ n, I.plans.length = n := ⟨_, rfl⟩
  have N8 := Lib.hid q8
  have b8 := HS.out.plans
  rw [q8] at b8
  rw [q8] at l8 H8 ⊢
  clear q8 l8 m8
  obtain ⟨a11, c11, rfl, l11, m11, _⟩ := R11
  unfold maxLen at m11
  obtain ⟨n11, q11⟩ : ∃ n, I.tabs.length = n := ⟨_, rfl⟩
  have N11 := Lib.hid q11
  have b11 := HS.out.tabs
  rw [q11] at b11
  rw [q11] at l11 ⊢
  clear q11 l11 m11
  have w1 : IntKind.i64.wrap ((n1 : Int) + (n2 : Int)) = (n1 : Int) + (n2 : Int) := by rw [IntKind.wrap_i64]; omega
  have w2 : IntKind.i64.wrap ((n1 : Int) + (n2 : Int) + (n3 : Int)) = (n1 : Int) + (n2 : Int) + (n3 : Int) := by rw [IntKind.wrap_i64]; omega
  have w3 : IntKind.i64.wrap ((n1 : Int) + (n2 : Int) + (n3 : Int) + (n4 : Int)) = (n1 : Int) + (n2 : Int) + (n3 : Int) + (n4 : Int) := by rw [IntKind.wrap_i64]; omega
  have w4 : IntKind.i64.wrap ((n1 : Int) + (n2 : Int) + (n3 : Int) + (n4 : Int) + (n6 : Int)) = (n1 : Int) + (n2 : Int) + (n3 : Int) + (n4 : Int) + (n6 : Int) := by rw [IntKind.wrap_i64]; omega
  have w5 : IntKind.i64.wrap ((n1 : Int) + (n2 : Int) + (n3 : Int) + (n4 : Int) + (n6 : Int) + (n7 : Int)) = (n1 : Int) + (n2 : Int) + (n3 : Int) + (n4 : Int) + (n6 : Int) + (n7 : Int) := by rw [IntKind.wrap_i64]; omega
  have w6 : IntKind.i64.wrap ((n1 : Int) + (n2 : Int) + (n3 : Int) + (n4 : Int) + (n6 : Int) + (n7 : Int) + (n8 : Int)) = (n1 : Int) + (n2 : Int) + (n3 : Int) + (n4 : Int) + (n6 : Int) + (n7 : Int) + (n8 : Int) := by rw [IntKind.wrap_i64]; omega
  have w7 : IntKind.i64.wrap ((n1 : Int) + (n2 : Int) + (n3 : Int) + (n4 : Int) + (n6 : Int) + (n7 : Int) + (n8 : Int) + (n11 : Int)) = (n1 : Int) + (n2 : Int) + (n3 : Int) + (n4 : Int) + (n6 : Int) + (n7 : Int) + (n8 : Int) + (n11 : Int) := by rw [IntKind.wrap_i64]; omega
  obtain ⟨m, hm⟩ : ∃ m, memI I = m := ⟨_, rfl⟩
  have hm' : m = n1 + n2 + n3 + n4 + n6 + n7 + n8 + n11 := by rw [← hm, memI, N1.out, N2.out, N3.out, N4.out, N6.out, N7.out, N8.out, N11.out]
  have HM := Lib.hid hm
  have hmi : (n1 : Int) + (n2 : Int) + (n3 : Int) + (n4 : Int) + (n6 : Int) + (n7 : Int) + (n8 : Int) + (n11 : Int) = (m : Int) := by omega
  have hmb : m ≤ 9007199254740992 := by omega
  have HCn : Hid (cntI I = m + rsz I.regs + plsz I.plans) := show _ = _ by rw [cntI, hm]
  clear hm hm'
  have HB9 : Hid (Below w.heap.size w (w.alloc (.cells #[z0, .slice a1 n1 c1, .slice a2 n2 c2, .slice a3 n3 c3, .slice a4 n4 c4, .slice a5 n5 c5, .slice a6 n6 c6, .slice a7 n7 c7, .slice a8 n8 c8, z9, z10, .slice a11 n11 c11] 33))) := (Below.refl _ _).alloc (Nat.le_refl _) _
  have d1 : (w.alloc (.cells #[z0, .slice a1 n1 c1, .slice a2 n2 c2, .slice a3 n3 c3, .slice a4 n4 c4, .slice a5 n5 c5, .slice a6 n6 c6, .slice a7 n7 c7, .slice a8 n8 c8, z9, z10, .slice a11 n11 c11] 33)).cell? ⟨w.heap.size, 1, none⟩ = some (.slice a1 n1 c1) := by simp [go_sem]
  have d2 : (w.alloc (.cells #[z0, .slice a1 n1 c1, .slice a2 n2 c2, .slice a3 n3 c3, .slice a4 n4 c4, .slice a5 n5 c5, .slice a6 n6 c6, .slice a7 n7 c7, .slice a8 n8 c8, z9, z10, .slice a11 n11 c11] 33)).cell? ⟨w.heap.size, 2, none⟩ = some (.slice a2 n2 c2) := by simp [go_sem]
  have d3 : (w.alloc (.cells #[z0, .slice a1 n1 c1, .slice a2 n2 c2, .slice a3 n3 c3, .slice a4 n4 c4, .slice a5 n5 c5, .slice a6 n6 c6, .slice a7 n7 c7, .slice a8 n8 c8, z9, z10, .slice a11 n11 c11] 33)).cell? ⟨w.heap.size, 3, none⟩ = some (.slice a3 n3 c3) := by simp [go_sem]
  have d4 : (w.alloc (.cells #[z0, .slice a1 n1 c1, .slice a2 n2 c2, .slice a3 n3 c3, .slice a4 n4 c4, .slice a5 n5 c5, .slice a6 n6 c6, .slice a7 n7 c7, .slice a8 n8 c8, z9, z10, .slice a11 n11 c11] 33)).cell? ⟨w.heap.size, 4, none⟩ = some (.slice a4 n4 c4) := by simp [go_sem]
  have d5 : (w.alloc (.cells #[z0, .slice a1 n1 c1, .slice a2 n2 c2, .slice a3 n3 c3, .slice a4 n4 c4, .slice a5 n5 c5, .slice a6 n6 c6, .slice a7 n7 c7, .slice a8 n8 c8, z9, z10, .slice a11 n11 c11] 33)).cell? ⟨w.heap.size, 5, none⟩ = some (.slice a5 n5 c5) := by simp [go_sem]
  have d6 : (w.alloc (.cells #[z0, .slice a1 n1 c1, .slice a2 n2 c2, .slice a3 n3 c3, .slice a4 n4 c4, .slice a5 n5 c5, .slice a6 n6 c6, .slice a7 n7 c7, .slice a8 n8 c8, z9, z10, .slice a11 n11 c11] 33)).cell? ⟨w.heap.size, 6, none⟩ = some (.slice a6 n6 c6) := by simp [go_sem]
  have d7 : (w.alloc (.cells #[z0, .slice a1 n1 c1, .slice a2 n2 c2, .slice a3 n3 c3, .slice a4 n4 c4, .slice a5 n5 c5, .slice a6 n6 c6, .slice a7 n7 c7, .slice a8 n8 c8, z9, z10, .slice a11 n11 c11] 33)).cell? ⟨w.heap.size, 7, none⟩ = some (.slice a7 n7 c7) := by simp [go_sem]
  have d8 : (w.alloc (.cells #[z0, .slice a1 n1 c1, .slice a2 n2 c2, .slice a3 n3 c3, .slice a4 n4 c4, .slice a5 n5 c5, .slice a6 n6 c6, .slice a7 n7 c7, .slice a8 n8 c8, z9, z10, .slice a11 n11 c11] 33)).cell? ⟨w.heap.size, 8, none⟩ = some (.slice a8 n8 c8) := by simp [go_sem]
  have d11 : (w.alloc (.cells #[z0, .slice a1 n1 c1, .slice a2 n2 c2, .slice a3 n3 c3, .slice a4 n4 c4, .slice a5 n5 c5, .slice a6 n6 c6, .slice a7 n7 c7, .slice a8 n8 c8, z9, z10, .slice a11 n11 c11] 33)).cell? ⟨w.heap.size, 11, none⟩ = some (.slice a11 n11 c11) := by simp [go_sem]
  have H5W := Lib.hid (H5.out.below HB9.out)
  have H8W := Lib.hid (H8.out.below HB9.out)
  clear H5 H8
  go_enter Tryz.func7, Tryz.ntmps7
  go_upto_region 1 with fail
  generalize (w.alloc (.cells #[z0, .slice a1 n1 c1, .slice a2 n2 c2, .slice a3 n3 c3, .slice a4 n4 c4, .slice a5 n5 c5, .slice a6 n6 c6, .slice a7 n7 c7, .slice a8 n8 c8, z9, z10, .slice a11 n11 c11] 33)) = W at *
  go_wp2_with fail
  clear w1 w2 w3 w4 w5 w6 w7
  clear d1 d2 d3 d4 d6 d7 d11
  go_loopw [3, 4] (fun nv jv wr => ∃ j N : Nat, j ≤ n5 ∧ nv = .int .i64 (N : Int) ∧ jv = .int .i64 (j : Int) ∧ Hid (N = m + rsz (I.regs.take j)) ∧ N ≤ 36028797018963968 ∧ wr = W) (fun _ jv _ => n5 - (intOf jv).toNat)
  case atStart => exact ⟨0, m, by omega, by first | rfl | rw [hmi], rfl, Lib.hid (by simp [rsz]), by omega, rfl⟩
  obtain ⟨j, N, hj, rfl, rfl, HN, hNb, hwr⟩ := hrel
  have hwr := hwr.symm
  subst hwr
  by_cases hj5 : j < n5
  case neg =>
    have jj : ¬ (j : Int) < (n5 : Int) := by omega
    have HX : Hid (N < 4000000 → N = m + rsz I.regs) := fun _ => by
      rw [HN.out, List.take_of_length_le (by rw [N5.out]; omega)]
    clear HN
    go_wp2_with fail
    clear jj
    go_loopw [3, 5] (fun nv jv wr => ∃ p M : Nat, p ≤ n8 ∧ nv = .int .i64 (M : Int) ∧ jv = .int .i64 (p : Int) ∧ Hid (M < 4000000 → M = m + rsz I.regs + plsz (I.plans.take p)) ∧ M ≤ 36028797018963968 ∧ wr = W) (fun _ jv _ => n8 - (intOf jv).toNat)
    case atStart => exact ⟨0, N, by omega, rfl, rfl, (fun h => by have := HX.out h; simp [plsz]; omega), by omega, rfl⟩
    clear HX
    obtain ⟨p, M, hp, rfl, rfl, HP, hMb, hwr⟩ := hrel
    have hwr := hwr.symm
    subst hwr
    by_cases hp8 : p < n8
    case neg =>
      have jp : ¬ (p : Int) < (n8 : Int) := by omega
      by_cases hM4 : M < 4000000
      · have jM : (M : Int) < 4000000 := by omega
        have jM' : ¬ (4000000 : Int) ≤ (M : Int) := by omega
        by_cases hR : 4000000 ≤ n5
        · have jR : (4000000 : Int) ≤ (n5 : Int) := by omega
          go_wp2_with fail
          go_ret
          exact HV.yes HB9.out
        · have jR : ¬ (4000000 : Int) ≤ (n5 : Int) := by omega
          have HZ : Hid (cntI I < 4000000) := show _ < _ by rw [HCn.out]; have := HP.out hM4; rw [List.take_of_length_le (by rw [N8.out]; omega)] at this; omega
          go_wp2_with fail
          go_ret
          exact HV.no HZ.out HB9.out
      · have jM : ¬ (M : Int) < 4000000 := by omega
        have jM' : (4000000 : Int) ≤ (M : Int) := by omega
        go_wp2_with fail
        go_ret
        exact HV.yes HB9.out
    have jp : (p : Int) < (n8 : Int) := by omega
    by_cases hM4 : M < 4000000
    case neg =>
      have jM : ¬ (M : Int) < 4000000 := by omega
      have jM' : (4000000 : Int) ≤ (M : Int) := by omega
      go_wp2_with fail
      go_ret
      exact HV.yes HB9.out
    have jM : (M : Int) < 4000000 := by omega
    have hpx : p < I.plans.length := by rw [N8.out]; exact hp8
    obtain ⟨_, _, e', _, _, hc⟩ := H8W.out
    simp only [Value.slice.injEq] at e'
    obtain ⟨rfl, e9, rfl⟩ := e'
    clear e9
    obtain ⟨b, of, u, rfl, _, cu, hL⟩ := hc p hpx
    have HT := Lib.hid (plsz_take I.plans p hpx)
    have HLs := Lib.hid (HS.out.lanes I.plans[p] (List.getElem_mem hpx))
    clear hc
    generalize I.plans[p] = X at *
    have HL := Lib.hid hL
    obtain ⟨la, lc, rfl, _, _, _⟩ := hL
    obtain ⟨L, hLn⟩ : ∃ n, X.lanes.length = n := ⟨_, rfl⟩
    have HLn := Lib.hid hLn
    have hLb := HLs.out.1
    rw [hLn] at cu hLb HL
    clear hLn
    have hw3 : IntKind.i64.wrap ((p : Int) + 1) = ((p + 1 : Nat) : Int) := by rw [IntKind.wrap_i64]; omega
    go_wp2_with fail
    go_loopw [3, 6] (fun nv kv wr => ∃ k K : Nat, k ≤ L ∧ nv = .int .i64 (K : Int) ∧ kv = .int .i64 (k : Int) ∧ Hid (K < 4000000 → K = m + rsz I.regs + plsz (I.plans.take p) + lsz (X.lanes.take k)) ∧ K ≤ 36028797018963968 ∧ wr = W) (fun _ kv _ => L - (intOf kv).toNat)
    case atStart => exact ⟨0, M, by omega, rfl, rfl, (fun h => by have := HP.out h; simp [lsz]; omega), by omega, rfl⟩
    clear HP jM
    obtain ⟨k, K, hk, rfl, rfl, HK, hKb, hwr⟩ := hrel
    have hwr := hwr.symm
    subst hwr
    by_cases hkL : k < L
    case neg =>
      have jk : ¬ (k : Int) < (L : Int) := by omega
      have HY : Hid (K < 4000000 → K = m + rsz I.regs + plsz (I.plans.take (p + 1))) := fun h => by
        have := HK.out h
        rw [show X.lanes.take k = X.lanes from List.take_of_length_le (by rw [HLn.out]; omega)] at this
        rw [HT.out]
        omega
      clear HK
      go_wp2_with fail
      go_roundw
      case rel => exact ⟨p + 1, K, by omega, rfl, by rfl, HY, by omega, by first | rfl | trivial⟩
      case measure => simp [intOf]; omega
    have jk : (k : Int) < (L : Int) := by omega
    by_cases hK4 : K < 4000000
    case neg =>
      have jK : ¬ (K : Int) < 4000000 := by omega
      have HY : Hid (K < 4000000 → K = m + rsz I.regs + plsz (I.plans.take (p + 1))) := fun h => absurd h hK4
      clear HK
      go_wp2_with fail
      go_roundw
      case rel => exact ⟨p + 1, K, by omega, rfl, by rfl, HY, by omega, by first | rfl | trivial⟩
      case measure => simp [intOf]; omega
    have jK : (K : Int) < 4000000 := by omega
    have hkx : k < X.lanes.length := by rw [HLn.out]; exact hkL
    obtain ⟨_, _, e', _, _, hc⟩ := HL.out
    simp only [Value.slice.injEq] at e'
    obtain ⟨rfl, e9, rfl⟩ := e'
    clear e9
    obtain ⟨lb, lo, u, rfl, cl, hR⟩ := hc k hkx
    have HTl := Lib.hid (lsz_take X.lanes k hkx)
    have hlb := HLs.out.2 X.lanes[k] (List.getElem_mem hkx)
    clear hc
    generalize X.lanes[k] = l at *
    obtain ⟨ra, rc, rfl, _, _, _⟩ := hR
    obtain ⟨t, hlt⟩ : ∃ t, l.length = t := ⟨_, rfl⟩
    rw [hlt] at hlb HTl cl
    clear hlt
    have hx1 : IntKind.i64.wrap ((K : Int) + 1) = (K : Int) + 1 := by rw [IntKind.wrap_i64]; omega
    have hx2 : IntKind.i64.wrap ((K : Int) + 1 + (t : Int)) = ((K + 1 + t : Nat) : Int) := by rw [IntKind.wrap_i64]; omega
    have hx3 : IntKind.i64.wrap ((k : Int) + 1) = ((k + 1 : Nat) : Int) := by rw [IntKind.wrap_i64]; omega
    go_wp2_with fail
    go_roundw
    case rel => exact ⟨k + 1, K + 1 + t, by omega, by rfl, by rfl, (fun h => by have := HK.out hK4; rw [HTl.out]; omega), by omega, by first | rfl | trivial⟩
    case measure => simp [intOf]; omega
  have jj : (j : Int) < (n5 : Int) := by omega
  by_cases hN4 : N < 4000000
  case neg =>
    have jN : ¬ (N : Int) < 4000000 := by omega
    have HX : Hid (N < 4000000 → N = m + rsz I.regs) := fun h => absurd h hN4
    clear HN
    go_wp2_with fail
    clear jj jN
    go_loopw [3, 5] (fun nv jv wr => ∃ p M : Nat, p ≤ n8 ∧ nv = .int .i64 (M : Int) ∧ jv = .int .i64 (p : Int) ∧ Hid (M < 4000000 → M = m + rsz I.regs + plsz (I.plans.take p)) ∧ M ≤ 36028797018963968 ∧ wr = W) (fun _ jv _ => n8 - (intOf jv).toNat)
    case atStart => exact ⟨0, N, by omega, rfl, rfl, (fun h => by have := HX.out h; simp [plsz]; omega), by omega, rfl⟩
    clear HX
    obtain ⟨p, M, hp, rfl, rfl, HP, hMb, hwr⟩ := hrel
    have hwr := hwr.symm
    subst hwr
    by_cases hp8 : p < n8
    case neg =>
      have jp : ¬ (p : Int) < (n8 : Int) := by omega
      by_cases hM4 : M < 4000000
      · have jM : (M : Int) < 4000000 := by omega
        have jM' : ¬ (4000000 : Int) ≤ (M : Int) := by omega
        by_cases hR : 4000000 ≤ n5
        · have jR : (4000000 : Int) ≤ (n5 : Int) := by omega
          go_wp2_with fail
          go_ret
          exact HV.yes HB9.out
        · have jR : ¬ (4000000 : Int) ≤ (n5 : Int) := by omega
          have HZ : Hid (cntI I < 4000000) := show _ < _ by rw [HCn.out]; have := HP.out hM4; rw [List.take_of_length_le (by rw [N8.out]; omega)] at this; omega
          go_wp2_with fail
          go_ret
          exact HV.no HZ.out HB9.out
      · have jM : ¬ (M : Int) < 4000000 := by omega
        have jM' : (4000000 : Int) ≤ (M : Int) := by omega
        go_wp2_with fail
        go_ret
        exact HV.yes HB9.out
    have jp : (p : Int) < (n8 : Int) := by omega
    by_cases hM4 : M < 4000000
    case neg =>
      have jM : ¬ (M : Int) < 4000000 := by omega
      have jM' : (4000000 : Int) ≤ (M : Int) := by omega
      go_wp2_with fail
      go_ret
      exact HV.yes HB9.out
    have jM : (M : Int) < 4000000 := by omega
    have hpx : p < I.plans.length := by rw [N8.out]; exact hp8
    obtain ⟨_, _, e', _, _, hc⟩ := H8W.out
    simp only [Value.slice.injEq] at e'
    obtain ⟨rfl, e9, rfl⟩ := e'
    clear e9
    obtain ⟨b, of, u, rfl, _, cu, hL⟩ := hc p hpx
    have HT := Lib.hid (plsz_take I.plans p hpx)
    have HLs := Lib.hid (HS.out.lanes I.plans[p] (List.getElem_mem hpx))
    clear hc
    generalize I.plans[p] = X at *
    have HL := Lib.hid hL
    obtain ⟨la, lc, rfl, _, _, _⟩ := hL
    obtain ⟨L, hLn⟩ : ∃ n, X.lanes.length = n := ⟨_, rfl⟩
    have HLn := Lib.hid hLn
    have hLb := HLs.out.1
    rw [hLn] at cu hLb HL
    clear hLn
    have hw3 : IntKind.i64.wrap ((p : Int) + 1) = ((p + 1 : Nat) : Int) := by rw [IntKind.wrap_i64]; omega
    go_wp2_with fail
    go_loopw [3, 6] (fun nv kv wr => ∃ k K : Nat, k ≤ L ∧ nv = .int .i64 (K : Int) ∧ kv = .int .i64 (k : Int) ∧ Hid (K < 4000000 → K = m + rsz I.regs + plsz (I.plans.take p) + lsz (X.lanes.take k)) ∧ K ≤ 36028797018963968 ∧ wr = W) (fun _ kv _ => L - (intOf kv).toNat)
    case atStart => exact ⟨0, M, by omega, rfl, rfl, (fun h => by have := HP.out h; simp [lsz]; omega), by omega, rfl⟩
    clear HP jM
    obtain ⟨k, K, hk, rfl, rfl, HK, hKb, hwr⟩ := hrel
    have hwr := hwr.symm
    subst hwr
    by_cases hkL : k < L
    case neg =>
      have jk : ¬ (k : Int) < (L : Int) := by omega
      have HY : Hid (K < 4000000 → K = m + rsz I.regs + plsz (I.plans.take (p + 1))) := fun h => by
        have := HK.out h
        rw [show X.lanes.take k = X.lanes from List.take_of_length_le (by rw [HLn.out]; omega)] at this
        rw [HT.out]
        omega
      clear HK
      go_wp2_with fail
      go_roundw
      case rel => exact ⟨p + 1, K, by omega, rfl, by rfl, HY, by omega, by first | rfl | trivial⟩
      case measure => simp [intOf]; omega
    have jk : (k : Int) < (L : Int) := by omega
    by_cases hK4 : K < 4000000
    case neg =>
      have jK : ¬ (K : Int) < 4000000 := by omega
      have HY : Hid (K < 4000000 → K = m + rsz I.regs + plsz (I.plans.take (p + 1))) := fun h => absurd h hK4
      clear HK
      go_wp2_with fail
      go_roundw
      case rel => exact ⟨p + 1, K, by omega, rfl, by rfl, HY, by omega, by first | rfl | trivial⟩
      case measure => simp [intOf]; omega
    have jK : (K : Int) < 4000000 := by omega
    have hkx : k < X.lanes.length := by rw [HLn.out]; exact hkL
    obtain ⟨_, _, e', _, _, hc⟩ := HL.out
    simp only [Value.slice.injEq] at e'
    obtain ⟨rfl, e9, rfl⟩ := e'
    clear e9
    obtain ⟨lb, lo, u, rfl, cl, hR⟩ := hc k hkx
    have HTl := Lib.hid (lsz_take X.lanes k hkx)
    have hlb := HLs.out.2 X.lanes[k] (List.getElem_mem hkx)
    clear hc
    generalize X.lanes[k] = l at *
    obtain ⟨ra, rc, rfl, _, _, _⟩ := hR
    obtain ⟨t, hlt⟩ : ∃ t, l.length = t := ⟨_, rfl⟩
    rw [hlt] at hlb HTl cl
    clear hlt
    have hx1 : IntKind.i64.wrap ((K : Int) + 1) = (K : Int) + 1 := by rw [IntKind.wrap_i64]; omega
    have hx2 : IntKind.i64.wrap ((K : Int) + 1 + (t : Int)) = ((K + 1 + t : Nat) : Int) := by rw [IntKind.wrap_i64]; omega
    have hx3 : IntKind.i64.wrap ((k : Int) + 1) = ((k + 1 : Nat) : Int) := by rw [IntKind.wrap_i64]; omega
    go_wp2_with fail
    go_roundw
    case rel => exact ⟨k + 1, K + 1 + t, by omega, by rfl, by rfl, (fun h => by have := HK.out hK4; rw [HTl.out]; omega), by omega, by first | rfl | trivial⟩
    case measure => simp [intOf]; omega
  have jN : (N : Int) < 4000000 := by omega
  have hix : j < I.regs.length := by rw [N5.out]; exact hj5
  obtain ⟨_, _, e', _, _, hc⟩ := H5W.out
  simp only [Value.slice.injEq] at e'
  obtain ⟨rfl, e9, rfl⟩ := e'
  clear e9
  obtain ⟨b, of, rfl, _, hc⟩ := hc j hix
  have hc3 := hc 3 (by decide)
  clear hc
  have HT := Lib.hid (rsz_take I.regs j hix)
  have ht := HS.out.txt I.regs[j] (List.getElem_mem hix)
  generalize I.regs[j] = g at *
  have c3 : W.cell? ⟨b, of + j * 4 + 3, none⟩ = some (.string g.txt) := hc3
  clear hc3
  obtain ⟨t, hgt⟩ : ∃ t, g.txt.size = t := ⟨_, rfl⟩
  rw [hgt] at ht HT
  have hw1 : IntKind.i64.wrap ((N : Int) + 1) = (N : Int) + 1 := by rw [IntKind.wrap_i64]; omega
  have hw2 : IntKind.i64.wrap ((N : Int) + 1 + (t : Int)) = ((N + 1 + t : Nat) : Int) := by rw [IntKind.wrap_i64]; omega
  have hw3 : IntKind.i64.wrap ((j : Int) + 1) = ((j + 1 : Nat) : Int) := by rw [IntKind.wrap_i64]; omega
  go_wp2_with fail
  go_roundw
  case rel => exact ⟨j + 1, N + 1 + t, by omega, by rfl, by rfl, by rw [HT.out, HN.out]; exact Lib.hid (by omega), by omega, by first | rfl | trivial⟩
  case measure => simp [intOf]; omega
end Go.Proofs.YtmfkggngjeolcaaGreatDoor
