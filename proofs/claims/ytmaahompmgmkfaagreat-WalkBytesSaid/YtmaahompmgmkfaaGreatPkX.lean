import Derived.Test.YtmaahompmgmkfaaGreatWkStore
import Derived.Test.YtmaahompmgmkfaaGreatRgRef
import Derived.Test.YtmaahompmgmkfaaGreatBReadM
import Derived.Test.YtmaahompmgmkfaaGreatRgNewA
import Derived.Test.YtmaahompmgmkfaaGreatSpWithU64
import Derived.Laws.StructEq
import Derived.Test.YtmaahompmgmkfaaGreatRgOff
import Derived.Test.YtmaahompmgmkfaaGreatWkTake
import Derived.Deep.RegionLaw
import Derived.Laws.MakeOwn
import Derived.Deep.DeepCutAuto
import Derived.Test.YtmaahompmgmkfaaGreatRgLoad
import Derived.Test.YtmaahompmgmkfaaGreatBStore
import Derived.Deep.RegionWith
/- bulkheadlaw4.small, whole. Own work. -/
namespace Go.Proofs.YtmaahompmgmkfaaGreat
open Go.RowKit Go.Maps Go.Proofs.YtmaahompmgmkfaaGreat.Sp Wk
open Classical in
noncomputable def smallB (rs ds : List Sp) : Bool := decide (refW rs ds = 0 ∧ smR (rs ++ ds) ≤ 500000)
theorem refW_sane {rs ds : List Sp} (fr : Fits 18446744073709551615 rs) (fd : Fits 18446744073709551615 ds) (h : refW rs ds = 0) : (∀ x ∈ rs ++ ds, 0 ≤ x.1 ∧ 0 < x.2 ∧ x.1 + x.2 ≤ 4294967296) ∧ rs.length ≤ 8 ∧ ds.length ≤ 32 := by
  by_cases hl : 8 < rs.length ∨ 32 < ds.length
  · rw [refW, if_pos hl] at h; omega
  · rw [refW, if_neg hl] at h
    by_cases h1 : stakeW 18446744073709551615 [] rs = 0
    · by_cases h2 : stakeW 1048576 rs ds = 0
      · refine ⟨fun x hx => ?_, by omega, by omega⟩
        rcases List.mem_append.1 hx with hx | hx
        · have := stakeW_sane rs [] fr h1 x hx
          exact ⟨(fr x hx).1, this.1, this.2⟩
        · have := stakeW_sane ds rs fd h2 x hx
          exact ⟨(fd x hx).1, this.1, this.2⟩
      · simp [h1, h2] at h
    · simp [h1] at h
theorem smR_take_step {L : List Sp} {k : Nat} (h : k < L.length) : smR (L.take (k + 1)) = smR (L.take k) + L[k].2 := by
  rw [List.take_succ_eq_append_getElem h, smR_append]
  simp [smR]
set_option maxRecDepth 100000 in
set_option maxHeartbeats 4000000 in
theorem small_any {w : World} {vr vd : Value} {rs ds : List Sp} (hr : U64.SV w vr rs) (hd : U64.SV w vd ds) (fr : Fits 18446744073709551615 rs) (fd : Fits 18446744073709551615 ds) :
    Calls Tryz.prog 5 #[.agg #[vr, vd]] w fun e w' => e = .returned (.bool (smallB rs ds)) ∧ Below w.heap.size w w' := by
  have HB0 : Hid (Below w.heap.size w (w.alloc (Obj.cells #[vr, vd] 24))) := (Below.refl _ _).alloc (Nat.le_refl _) _
  have HX0 : Hid ((w.alloc (Obj.cells #[vr, vd] 24)).cell? ⟨w.heap.size, 0, none⟩ = some vr ∧ (w.alloc (Obj.cells #[vr, vd] 24)).cell? ⟨w.heap.size, 1, none⟩ = some vd) := U64.new2 rfl vr vd _
  have HRf := Lib.hid (refuses_any (hr.below HB0.out (Nat.le_refl _)) (hd.below HB0.out (Nat.le_refl _)) fr fd)
  have HAl : Hid (rs.length + ds.length ≤ 64 → ∀ W, Below w.heap.size w W → Calls Tryz.prog 14 #[.agg #[vr, vd]] W fun e w' => ∃ a n c, e = .returned (.slice a n c) ∧ Hid (Below W.heap.size W w') ∧ Hid (U64.SV w' (.slice a n c) (rs ++ ds)) ∧ Hid (∀ j, (Value.slice a n c).ownBlock = some j → W.heap.size ≤ j)) := fun hl W hW => all_any (hr.below hW (Nat.le_refl _)) (hd.below hW (Nat.le_refl _)) (by omega)
  have HSa := Lib.hid (refW_sane fr fd)
  clear hr hd fr fd
  go_enter Tryz.func5, Tryz.ntmps5
  go_wp2_with fail
  refine HRf.out.mono ?_
  rintro e w1 ⟨rfl, hb1⟩
  have HB1 : Hid (Below w.heap.size w w1) := HB0.out.trans (hb1.mono (by simp))
  have y0 : w1.cell? ⟨w.heap.size, 0, none⟩ = some vr := (hb1.cell (p := ⟨w.heap.size, 0, none⟩) (by simp)).trans HX0.out.1
  have y1 : w1.cell? ⟨w.heap.size, 1, none⟩ = some vd := (hb1.cell (p := ⟨w.heap.size, 1, none⟩) (by simp)).trans HX0.out.2
  clear hb1 HRf HX0
  by_cases h0 : refW rs ds = 0
  · have hsa := HSa.out h0
    have hl : rs.length + ds.length ≤ 64 := by omega
    have HSn : Hid (∀ x ∈ rs ++ ds, 0 ≤ x.1 ∧ 0 < x.2 ∧ x.1 + x.2 ≤ 4294967296) := hsa.1
    have HE : Hid (smallB rs ds = decide (smR (rs ++ ds) ≤ 500000)) := by
      show _ = _
      unfold smallB
      rw [Bool.eq_iff_iff]
      simp [h0]
    have hl2 : (rs ++ ds).length ≤ 64 := by rw [List.length_append]; exact hl
    rw [h0]
    have HA2 := Lib.hid (HAl.out hl w1 HB1.out)
    generalize rs ++ ds = LL at *
    clear hsa h0 HAl HSa
    go_wp2_with fail
    refine HA2.out.mono ?_
    rintro e w2 ⟨al, nl, cl, rfl, HB2, HS2, _⟩
    obtain ⟨al', cl', ev, hcl, hml, _⟩ := id HS2.out
    simp only [Value.slice.injEq] at ev
    obtain ⟨rfl, hnl, rfl⟩ := ev
    have HN : Hid (nl = LL.length) := hnl
    have hn64 : nl ≤ 64 := by rw [hnl]; exact hl2
    have hcl' : nl ≤ cl := by rw [hnl]; exact hcl
    unfold maxLen at hml
    have HBe : Hid (Below w.heap.size w w2) := HB1.out.trans (HB2.out.mono HB1.out.size)
    clear hnl hcl HA2 hl hl2 HB1 y0 y1 HB0
    go_wp2_with fail
    go_loop [5, 3] (fun iv sv => ∃ k : Nat, k ≤ nl ∧ iv = .int .i64 (k : Int) ∧ sv = .int .u64 (smR (LL.take k))) (fun iv _ => nl - (intOf iv).toNat)
    case atStart => exact ⟨0, Nat.zero_le _, rfl, rfl⟩
    case round =>
      obtain ⟨k, hk, rfl, rfl⟩ := hrel
      have hb := smR_bound (LL.take k) (fun x hx => by have := HSn.out x (List.mem_of_mem_take hx); omega)
      have hle : (LL.take k).length ≤ 64 := by rw [List.length_take]; have := HN.out; omega
      have s0 : 0 ≤ smR (LL.take k) := hb.1
      have s1 : smR (LL.take k) ≤ 274877906944 := by omega
      clear hb hle
      by_cases hlt : k < nl
      · have hkL : k < LL.length := by rw [← HN.out]; exact hlt
        have hsan := HSn.out LL[k] (List.getElem_mem _)
        have HSt : Hid (smR (LL.take (k + 1)) = smR (LL.take k) + LL[k].2) := smR_take_step hkL
        obtain ⟨_, _, e, _, _, _, _, h5⟩ := id HS2.out
        simp only [Value.slice.injEq] at e
        obtain ⟨rfl, hzz, rfl⟩ := e
        clear hzz
        obtain ⟨g, off, rfl, d0, d1⟩ := h5 k hkL
        clear h5
        generalize LL[k] = xx at *
        obtain ⟨b, s⟩ := xx
        simp only at d0 d1 hsan HSt
        obtain ⟨b0, b1, b2⟩ := hsan
        have jk : (k : Int) < (nl : Int) := by omega
        generalize smR (LL.take k) = t at *
        go_wp2_with fail
        go_round
        case rel => exact ⟨k + 1, by omega, by go_num, by rw [HSt.out]⟩
        case measure => simp [intOf]; omega
      · obtain rfl : k = nl := by omega
        have HT : Hid (smR (LL.take k) = smR LL) := by show _ = _; rw [HN.out, List.take_length]
        rw [← HT.out] at HE
        generalize smR (LL.take k) = t at *
        by_cases ht : t ≤ 500000
        · go_wp2_with fail
          go_ret
          exact ⟨by rw [HE.out, decide_eq_true ht]; rfl, HBe.out⟩
        · go_wp2_with fail
          go_ret
          exact ⟨by rw [HE.out, decide_eq_false (show ¬ t ≤ 500000 by omega)]; rfl, HBe.out⟩
  · have HE : Hid (smallB rs ds = false) := by
      show _ = _
      unfold smallB
      simp [h0]
    have h0e : (refW rs ds == 0) = false := by simpa using h0
    generalize refW rs ds = y at *
    go_wp2_with fail
    go_ret
    exact ⟨by rw [HE.out]; rfl, HB1.out⟩
theorem bytesAt_len (M : Nat → Nat) (a n : Nat) : (bytesAt M a n).length = n := by simp [bytesAt]
theorem bytesAt_small {M : Nat → Nat} (hM : ∀ p, M p < 256) (a n : Nat) : ∀ z ∈ bytesAt M a n, z < 256 := by
  intro z hz
  obtain ⟨j, _, rfl⟩ := List.mem_map.1 hz
  exact hM _
/-- all bytes of ranges -/
def wholeL (M : Nat → Nat) (L : List Sp) : List Nat := L.flatMap fun x => bytesAt M x.1.toNat x.2.toNat
theorem wholeL_len {M : Nat → Nat} : ∀ {L : List Sp}, (∀ x ∈ L, 0 ≤ x.2) → ((wholeL M L).length : Int) = smR L
  | [], _ => rfl
  | x :: L, h => by
    have ih := wholeL_len (M := M) (L := L) (fun y hy => h y (List.mem_cons_of_mem _ hy))
    have hx := h x (List.mem_cons_self ..)
    show (((bytesAt M x.1.toNat x.2.toNat ++ wholeL M L).length : Nat) : Int) = x.2 + smR L
    rw [List.length_append, bytesAt_len]
    omega
theorem wholeL_take {M : Nat → Nat} {L : List Sp} {k : Nat} (h : k < L.length) : wholeL M (L.take (k + 1)) = wholeL M (L.take k) ++ bytesAt M L[k].1.toNat L[k].2.toNat := by
  unfold wholeL
  rw [List.take_succ_eq_append_getElem h, List.flatMap_append, List.flatMap_singleton]
theorem smR_le_of_take {L : List Sp} (h : ∀ x ∈ L, 0 ≤ x.2) (k : Nat) : smR (L.take k) ≤ smR L := by
  have e := smR_append (L.take k) (L.drop k)
  rw [List.take_append_drop] at e
  have : ∀ l : List Sp, (∀ x ∈ l, 0 ≤ x.2) → 0 ≤ smR l := by
    intro l
    induction l with
    | nil => intro _; exact Int.le_refl _
    | cons y l ih => intro hh; have := ih (fun z hz => hh z (List.mem_cons_of_mem _ hz)); have := hh y (List.mem_cons_self ..); simp only [smR]; omega
  have := this (L.drop k) (fun x hx => h x (List.mem_of_mem_drop hx))
  omega
set_option maxRecDepth 100000 in
set_option maxHeartbeats 8000000 in
theorem whole_any {w : World} {m B : Nat} {V : Value × Value × Value} {T : Nat → Option Nat} {M : Nat → Nat} {rs ds : List Sp} {n : Nat} {vr vd : Value} (h : Mx w m B V T M rs ds n) (hn : n ≤ 4611686018427380000) (hr : U64.SV w vr rs) (hd : U64.SV w vd ds) (hsa : ∀ x ∈ rs ++ ds, 0 ≤ x.1 ∧ 0 < x.2 ∧ x.1 + x.2 ≤ 4294967296) (hl : rs.length + ds.length ≤ 64) (hs : smR (rs ++ ds) ≤ 500000) :
    Calls Tryz.prog 11 #[.pointer (some ⟨m, 0, none⟩), .agg #[vr, vd]] w fun e w' => ∃ a c, e = .returned (.slice a (wholeL M (rs ++ ds)).length c) ∧ Hid (Own w' w.heap.size (.slice a (wholeL M (rs ++ ds)).length c) (wholeL M (rs ++ ds))) ∧ Hid (Mx w' m B V T M rs ds n) ∧ Hid (Keeps (fun j => j = m) w w') := by
  have HM : Hid (Mx w m B V T M rs ds n) := h
  have hml := h.lt
  have HSm : Hid (∀ p, M p < 256) := h.small
  have HB0 : Hid (Below w.heap.size w (w.alloc (Obj.cells #[vr, vd] 24))) := (Below.refl _ _).alloc (Nat.le_refl _) _
  have HAl := Lib.hid (all_any (hr.below HB0.out (Nat.le_refl _)) (hd.below HB0.out (Nat.le_refl _)) (by omega))
  have HRd : Hid (∀ W (x : Sp), x ∈ rs ++ ds → x.2 ≤ 500000 → Mx W m B V T M rs ds n → Calls Tryz.prog 24 #[.pointer (some ⟨m, 0, none⟩), .int .u64 ((x.1.toNat : Nat) : Int), .int .i64 ((x.2.toNat : Nat) : Int)] W fun e w' => ∃ g, e = .returned (.tuple #[.slice (some ⟨g, 0, none⟩) x.2.toNat x.2.toNat, FaultV 0 0]) ∧ RowT w' 5 g (bytesAt M x.1.toNat x.2.toNat) ∧ W.heap.size ≤ g ∧ Mx w' m B V T M rs ds n ∧ Keeps (fun j => j = m) W w') := fun W x hx hx5 ⟨L, S, X, h1, h2, h3, h4⟩ => by
    have hq := hsa x hx
    refine (read_ok h4 (a := x.1.toNat) (n := x.2.toNat) (by omega) (by omega) (by omega) (fun i hi => ⟨x, hx, by omega, by omega⟩)).mono ?_
    rintro e w' ⟨g, rfl, hr, hg, hm, hk⟩
    exact ⟨g, rfl, hr, hg, ⟨L, S, X, h1, h2, h3, hm⟩, hk⟩
  have HSn : Hid (∀ x ∈ rs ++ ds, 0 ≤ x.1 ∧ 0 < x.2 ∧ x.1 + x.2 ≤ 4294967296) := hsa
  have hl2 : (rs ++ ds).length ≤ 64 := by rw [List.length_append]; exact hl
  have HS5 : Hid (smR (rs ++ ds) ≤ 500000) := hs
  generalize rs ++ ds = LL at *
  clear h hr hd hsa hl hs
  go_enter Tryz.func11, Tryz.ntmps11
  go_wp2_with fail
  refine HAl.out.mono ?_
  rintro e w2 ⟨al, nl, cl, rfl, HB2, HS2, HJ2⟩
  obtain ⟨al', cl', ev, hcl, hml2, _⟩ := id HS2.out
  simp only [Value.slice.injEq] at ev
  obtain ⟨rfl, hnl, rfl⟩ := ev
  have HN : Hid (nl = LL.length) := hnl
  have hn64 : nl ≤ 64 := by rw [hnl]; exact hl2
  have hcl' : nl ≤ cl := by rw [hnl]; exact hcl
  unfold maxLen at hml2
  have HBe : Hid (Below w.heap.size w w2) := HB0.out.trans (HB2.out.mono (by simp))
  have HJw : Hid (∀ j, (Value.slice al nl cl).ownBlock = some j → w.heap.size < j) := fun j e => by have := HJ2.out j e; simp at this; omega
  clear hnl hcl HAl hl2 HB0 HJ2
  go_wp2_with fail
  go_loopw [7, 5] (fun iv sv wr => ∃ (k : Nat) (a : Option Addr) (n5 c : Nat), k ≤ nl ∧ iv = .int .i64 (k : Int) ∧ sv = .slice a n5 c ∧ Hid (Own wr w.heap.size (.slice a n5 c) (wholeL M (LL.take k))) ∧ Hid (U64.SV wr (.slice al nl cl) LL) ∧ Hid (Mx wr m B V T M rs ds n) ∧ Hid (Keeps (fun j => j = m) w wr) ∧ Hid (∀ j, (Value.slice al nl cl).ownBlock = some j → (Value.slice a n5 c).ownBlock ≠ some j)) (fun iv _ _ => nl - (intOf iv).toNat)
  case atStart => exact ⟨0, none, 0, 0, Nat.zero_le _, rfl, rfl, ⟨rfl, .inl ⟨rfl, rfl⟩⟩, HS2, HM.out.below HBe.out, Keeps.of_below HBe.out, fun j _ e => by cases e⟩
  case round =>
    clear HS2
    obtain ⟨k, a, n5, c, hk, rfl, rfl, HO, HSl, HMr, HKr, HAp⟩ := hrel
    by_cases hlt : k < nl
    · have hkL : k < LL.length := by rw [← HN.out]; exact hlt
      have hmem : LL[k] ∈ LL := List.getElem_mem _
      have hsan := HSn.out LL[k] hmem
      have HNx : Hid (wholeL M (LL.take (k + 1)) = wholeL M (LL.take k) ++ bytesAt M LL[k].1.toNat LL[k].2.toNat) := wholeL_take hkL
      have hnn : ∀ x ∈ LL, 0 ≤ x.2 := fun x hx => by have := HSn.out x hx; omega
      have hle := smR_le_of_take hnn (k + 1)
      rw [smR_take_step hkL] at hle
      have hwl := wholeL_len (M := M) (L := LL.take k) (fun x hx => hnn x (List.mem_of_mem_take hx))
      have hs5 := HS5.out
      have HLen : Hid (((wholeL M (LL.take k)).length : Int) + LL[k].2 ≤ 500000) := by show _ ≤ _; omega
      have h25 : LL[k].2 ≤ 500000 := by have : (0 : Int) ≤ ((wholeL M (LL.take k)).length : Int) := by omega
                                        have := HLen.out; omega
      have HCl := Lib.hid (fun W => HRd.out W LL[k] hmem h25)
      obtain ⟨_, _, e, _, _, _, _, h5⟩ := id HSl.out
      simp only [Value.slice.injEq] at e
      obtain ⟨rfl, hzz, rfl⟩ := e
      clear hzz
      obtain ⟨g, off, rfl, d0, d1⟩ := h5 k hkL
      clear h5
      generalize LL[k] = xx at *
      obtain ⟨bi, si⟩ := xx
      simp only at d0 d1 hsan HNx HLen HCl h25
      obtain ⟨b0, b1, b2⟩ := hsan
      obtain ⟨aN, rfl⟩ : ∃ aN : Nat, bi = (aN : Int) := ⟨bi.toNat, by omega⟩
      obtain ⟨sN, rfl⟩ : ∃ sN : Nat, si = (sN : Int) := ⟨si.toNat, by omega⟩
      simp only [Int.toNat_natCast] at HNx HCl
      generalize wholeL M (LL.take k) = xs at *
      have jk : (k : Int) < (nl : Int) := by omega
      have hgw : w.heap.size < g := HJw.out g rfl
      have hgl : g < wr.heap.size := World.block_lt_of_cell? wr _ d0
      have hmw : m < wr.heap.size := HMr.out.lt
      have HCa : Hid (∀ W, Below wr.heap.size wr W → Calls Tryz.prog 24 #[.pointer (some ⟨m, 0, none⟩), .int .u64 (aN : Int), .int .i64 (sN : Int)] W fun e w' => ∃ gr, e = .returned (.tuple #[.slice (some ⟨gr, 0, none⟩) sN sN, .agg #[.int .i64 0, .int .u64 0]]) ∧ (w'.cell? ⟨g, off + k * 2, none⟩ = some (.int .u64 (aN : Int)) ∧ w'.cell? ⟨g, off + k * 2 + 1, none⟩ = some (.int .u64 (sN : Int))) ∧ Hid (RowT w' 5 gr (bytesAt M aN sN) ∧ W.heap.size ≤ gr ∧ Mx w' m B V T M rs ds n) ∧ Hid (Keeps (fun j => j = m) W w')) := fun W hW => by
        refine (HCl.out W (HMr.out.below hW)).mono ?_
        rintro e w' ⟨gr, rfl, h1, h2, h3, h4⟩
        have e0 : W.cell? ⟨g, off + k * 2, none⟩ = some (.int .u64 (aN : Int)) := (hW.cell (p := ⟨g, off + k * 2, none⟩) hgl).trans d0
        have e1 : W.cell? ⟨g, off + k * 2 + 1, none⟩ = some (.int .u64 (sN : Int)) := (hW.cell (p := ⟨g, off + k * 2 + 1, none⟩) hgl).trans d1
        have hb : w'.heap[g]? = W.heap[g]? := h4.block g (Nat.lt_of_lt_of_le hgl hW.size) (by omega)
        exact ⟨gr, rfl, ⟨(World.cell?_of_block (w := W) (a := ⟨g, off + k * 2, none⟩) hb).trans e0, (World.cell?_of_block (w := W) (a := ⟨g, off + k * 2 + 1, none⟩) hb).trans e1⟩, ⟨h1, h2, h3⟩, h4⟩
      have HBd : Hid (Below wr.heap.size wr wr.drew) := (Below.refl _ _).drew
      have hsw : IntKind.i64.wrap (sN : Int) = (sN : Int) := by rw [IntKind.wrap_i64]; omega
      have hnew : g ≠ wr.heap.size := by omega
      go_wp2_with fail
      go_region_held3 (fun w' => w'.cell? ⟨g, off + k * 2, none⟩ = some (.int .u64 (aN : Int)) ∧ w'.cell? ⟨g, off + k * 2 + 1, none⟩ = some (.int .u64 (sN : Int))) (first | exact ⟨(U64.set_other hnew).trans ((U64.set_other hnew).trans z3), (U64.set_other hnew).trans ((U64.set_other hnew).trans z4)⟩ | go_keep) (first | (go_at_call 24; first | (refine (HCa.out _ HBd.out).mono ?_; rintro e w3 ⟨gr, rfl, ⟨z3, z4⟩, HP3, HK3⟩) | (refine (HCa.out _ (HBd.out.alloc HBd.out.size _)).mono ?_; rintro e w3 ⟨gr, rfl, ⟨z3, z4⟩, HP3, HK3⟩; obtain ⟨k0, k1, k2, k3⟩ := (show BoxF w3 wr.heap.size 0 0 from (BoxF.new wr.drew 0 0).keeps HK3.out (show ¬ wr.heap.size = m by omega)).cells)))
      · have hb4 : Below w3.heap.size w3 (w3.alloc (Obj.cells #[.int .i64 0, .int .u64 0] 37)) := (Below.refl _ _).alloc (Nat.le_refl _) _
        have hz3 := HK3.out.size
        have F1 : Hid (Own (w3.alloc (Obj.cells #[.int .i64 0, .int .u64 0] 37)) w.heap.size (.slice a n5 c) xs) := ((HO.out.below HBd.out).keeps HK3.out (fun j e e' => by have := (HO.out.lt j e).1; have e' : j = m := e'; omega)).below hb4
        have F2 : Hid (Sl (w3.alloc (Obj.cells #[.int .i64 0, .int .u64 0] 37)) (.slice (some ⟨gr, 0, none⟩) sN sN) (bytesAt M aN sN)) := rowT_sl (rowT_below HP3.out.1 hb4) (bytesAt_len _ _ _) (bytesAt_small HSm.out _ _) (by unfold maxLen; omega)
        have F3 : Hid (U64.SV (w3.alloc (Obj.cells #[.int .i64 0, .int .u64 0] 37)) (.slice (some ⟨g, off, none⟩) nl cl) LL) := ((HSl.out.below HBd.out (Nat.le_refl _)).keeps HK3.out (fun j e e' => by cases e; have e' : g = m := e'; omega)).below hb4 (Nat.le_refl _)
        have F4 : Hid (Mx (w3.alloc (Obj.cells #[.int .i64 0, .int .u64 0] 37)) m B V T M rs ds n) := HP3.out.2.2.below hb4
        have F5 : Hid (Keeps (fun j => j = m) w (w3.alloc (Obj.cells #[.int .i64 0, .int .u64 0] 37))) := ((HKr.out.trans (Keeps.of_below (S := fun _ => False) HBd.out) (fun _ _ h => h.elim)).trans HK3.out (fun _ _ e => e)).trans (Keeps.of_below (S := fun _ => False) hb4) (fun _ _ h => h.elim)
        have F8 : Hid (wr.heap.size ≤ (w3.alloc (Obj.cells #[.int .i64 0, .int .u64 0] 37)).heap.size) := Nat.le_trans hz3 hb4.size
        have F7 : Hid (w.heap.size ≤ (w3.alloc (Obj.cells #[.int .i64 0, .int .u64 0] 37)).heap.size) := Nat.le_trans (by omega) F8.out
        clear hb4 hz3
        generalize w3.alloc (Obj.cells #[.int .i64 0, .int .u64 0] 37) = W4 at *
        have f6 : xs.length + sN ≤ 1099511627776 := by have := HLen.out; omega
        have hnb : ∀ j, (Value.slice a n5 c).ownBlock = some j → w.heap.size ≤ j := fun j e => (F1.out.lt j e).1
        have hgW : g < W4.heap.size := Nat.lt_of_lt_of_le hgl F8.out
        clear HCl HCa HP3 HK3 z3 z4 d0 d1 HRd HBd
        go_wp2_with (refine wpList_append_sl (.tmp 34) (.tmp 35) rfl rfl rfl F1.out rfl F2.out (by rw [bytesAt_len]; exact f6) F7.out ?_)
        intro v' w5 ho hg5 ho3
        have HK5 : Hid (Keeps (fun j => (Value.slice a n5 c).ownBlock = some j) W4 w5) := ⟨hg5.os, hg5.tape, hg5.output, hg5.size, fun j hj hn => hg5.block j hj (fun e => hn e.symm)⟩
        obtain ⟨a', n', c', rfl⟩ : ∃ a n c, v' = .slice a n c := by
          rcases ho.2 with ⟨rfl, _⟩ | ⟨g, cap, cur, rfl, _⟩
          · exact ⟨_, _, _, rfl⟩
          · exact ⟨_, _, _, rfl⟩
        have HO5 : Hid (Own w5 w.heap.size (.slice a' n' c') (xs ++ bytesAt M aN sN)) := ho
        have HA5 : Hid (∀ j, (Value.slice (some ⟨g, off, none⟩) nl cl).ownBlock = some j → (Value.slice a' n' c').ownBlock ≠ some j) := fun j e e' => by
          rcases ho3 with h | h
          · exact HAp.out j e (h ▸ e')
          · rw [h] at e'
            cases e
            cases e'
            exact absurd hgW (Nat.lt_irrefl _)
        clear hg5 ho ho3
        go_wp2_with fail
        go_roundw
        case rel => exact ⟨k + 1, a', n', c', by omega, by go_num, rfl, by rw [HNx.out]; exact HO5, F3.out.keeps HK5.out (fun j e e' => HAp.out j e e'), F4.out.keeps HK5.out (fun j hj e => by have := HM.out.mine_lt hj; have := hnb j e; omega), F5.out.trans HK5.out (fun i hi e => absurd (hnb i e) (by omega)), HA5⟩
        case measure => simp [intOf]; omega
      · have hk4 : Keeps (fun j => j = wr.heap.size) w3 ((w3.setCell ⟨wr.heap.size, 0, none⟩ (.int .i64 0)).setCell ⟨wr.heap.size, 1, none⟩ (.int .u64 0)) := Keeps.two w3 wr.heap.size (.int .i64 0) (.int .u64 0)
        have hz3 := HK3.out.size
        have hba : Below wr.heap.size wr (wr.drew.alloc (Obj.cells #[.int .i64 0, .int .u64 0] 37)) := HBd.out.alloc HBd.out.size _
        have hgr : wr.heap.size < gr := by have := HP3.out.2.1; simp at this; omega
        have F1 : Hid (Own ((w3.setCell ⟨wr.heap.size, 0, none⟩ (.int .i64 0)).setCell ⟨wr.heap.size, 1, none⟩ (.int .u64 0)) w.heap.size (.slice a n5 c) xs) := ((HO.out.below hba).keeps HK3.out (fun j e e' => by have := (HO.out.lt j e).1; have e' : j = m := e'; omega)).keeps hk4 (fun j e e' => by have := (HO.out.lt j e).2; have e' : j = wr.heap.size := e'; omega)
        have F2 : Hid (Sl ((w3.setCell ⟨wr.heap.size, 0, none⟩ (.int .i64 0)).setCell ⟨wr.heap.size, 1, none⟩ (.int .u64 0)) (.slice (some ⟨gr, 0, none⟩) sN sN) (bytesAt M aN sN)) := rowT_sl (rowT_keeps HP3.out.1 hk4 (show ¬ gr = wr.heap.size by omega)) (bytesAt_len _ _ _) (bytesAt_small HSm.out _ _) (by unfold maxLen; omega)
        have F3 : Hid (U64.SV ((w3.setCell ⟨wr.heap.size, 0, none⟩ (.int .i64 0)).setCell ⟨wr.heap.size, 1, none⟩ (.int .u64 0)) (.slice (some ⟨g, off, none⟩) nl cl) LL) := ((HSl.out.below hba (Nat.le_refl _)).keeps HK3.out (fun j e e' => by cases e; have e' : g = m := e'; omega)).keeps hk4 (fun j e e' => by cases e; exact hnew e')
        have F4 : Hid (Mx ((w3.setCell ⟨wr.heap.size, 0, none⟩ (.int .i64 0)).setCell ⟨wr.heap.size, 1, none⟩ (.int .u64 0)) m B V T M rs ds n) := HP3.out.2.2.keeps hk4 (fun j hj e => by have := HM.out.mine_lt hj; have e : j = wr.heap.size := e; omega)
        have F5 : Hid (Keeps (fun j => j = m) w ((w3.setCell ⟨wr.heap.size, 0, none⟩ (.int .i64 0)).setCell ⟨wr.heap.size, 1, none⟩ (.int .u64 0))) := ((HKr.out.trans (Keeps.of_below (S := fun _ => False) hba) (fun _ _ h => h.elim)).trans HK3.out (fun _ _ e => e)).trans hk4 (fun i hi e => absurd (show i = wr.heap.size from e) (by omega))
        have F8 : Hid (wr.heap.size ≤ ((w3.setCell ⟨wr.heap.size, 0, none⟩ (.int .i64 0)).setCell ⟨wr.heap.size, 1, none⟩ (.int .u64 0)).heap.size) := Nat.le_trans hba.size (Nat.le_trans hz3 hk4.size)
        have F7 : Hid (w.heap.size ≤ ((w3.setCell ⟨wr.heap.size, 0, none⟩ (.int .i64 0)).setCell ⟨wr.heap.size, 1, none⟩ (.int .u64 0)).heap.size) := Nat.le_trans (by omega) F8.out
        clear hk4 hz3 hba hgr k0 k1 k2 k3
        generalize (w3.setCell ⟨wr.heap.size, 0, none⟩ (.int .i64 0)).setCell ⟨wr.heap.size, 1, none⟩ (.int .u64 0) = W4 at *
        have f6 : xs.length + sN ≤ 1099511627776 := by have := HLen.out; omega
        have hnb : ∀ j, (Value.slice a n5 c).ownBlock = some j → w.heap.size ≤ j := fun j e => (F1.out.lt j e).1
        have hgW : g < W4.heap.size := Nat.lt_of_lt_of_le hgl F8.out
        clear HCl HCa HP3 HK3 z3 z4 d0 d1 HRd HBd
        go_wp2_with (refine wpList_append_sl (.tmp 34) (.tmp 35) rfl rfl rfl F1.out rfl F2.out (by rw [bytesAt_len]; exact f6) F7.out ?_)
        intro v' w5 ho hg5 ho3
        have HK5 : Hid (Keeps (fun j => (Value.slice a n5 c).ownBlock = some j) W4 w5) := ⟨hg5.os, hg5.tape, hg5.output, hg5.size, fun j hj hn => hg5.block j hj (fun e => hn e.symm)⟩
        obtain ⟨a', n', c', rfl⟩ : ∃ a n c, v' = .slice a n c := by
          rcases ho.2 with ⟨rfl, _⟩ | ⟨g, cap, cur, rfl, _⟩
          · exact ⟨_, _, _, rfl⟩
          · exact ⟨_, _, _, rfl⟩
        have HO5 : Hid (Own w5 w.heap.size (.slice a' n' c') (xs ++ bytesAt M aN sN)) := ho
        have HA5 : Hid (∀ j, (Value.slice (some ⟨g, off, none⟩) nl cl).ownBlock = some j → (Value.slice a' n' c').ownBlock ≠ some j) := fun j e e' => by
          rcases ho3 with h | h
          · exact HAp.out j e (h ▸ e')
          · rw [h] at e'
            cases e
            cases e'
            exact absurd hgW (Nat.lt_irrefl _)
        clear hg5 ho ho3
        go_wp2_with fail
        go_roundw
        case rel => exact ⟨k + 1, a', n', c', by omega, by go_num, rfl, by rw [HNx.out]; exact HO5, F3.out.keeps HK5.out (fun j e e' => HAp.out j e e'), F4.out.keeps HK5.out (fun j hj e => by have := HM.out.mine_lt hj; have := hnb j e; omega), F5.out.trans HK5.out (fun i hi e => absurd (hnb i e) (by omega)), HA5⟩
        case measure => simp [intOf]; omega
    · obtain rfl : k = nl := by omega
      have HW : Hid (wholeL M (LL.take k) = wholeL M LL) := by show _ = _; rw [HN.out, List.take_length]
      rw [HW.out] at HO
      go_wp2_with fail
      go_ret
      have hln : n5 = (wholeL M LL).length := by
        rcases HO.out.2 with ⟨e, h0⟩ | ⟨g, cap, cur, e, _⟩
        · cases e; exact h0.symm
        · cases e; rfl
      subst hln
      exact ⟨a, c, rfl, HO, HMr, HKr⟩
end Go.Proofs.YtmaahompmgmkfaaGreat
/- bulkheadlaw4.few, awake. Own work. -/
namespace Go.Proofs.YtmaahompmgmkfaaGreat
open Go.RowKit Go.Maps Go.Proofs.YtmaahompmgmkfaaGreat.Sp Wk
def rsF : List Sp := [(4096, 65536)]
/-- the bytes of the small machine -/
def MF : Nat → Nat := putAt (putAt (putAt (fun _ => 0) 4096 ((Pl.le 8 8193).take 8)) 8192 ((Pl.le 8 12289).take 8)) 12312 ((Pl.le 8 20483).take 8)
theorem on_F {p : Int} (h1 : 4096 ≤ p) (h2 : p < 69632) : On (rsF ++ []) p := ⟨(4096, 65536), List.mem_cons_self .., h1, by show p < 4096 + 65536; omega⟩
theorem look_F0 : lookF (rsF ++ []) MF 4096 0 = ((8192, true, false, false, false), 0) := by
  unfold lookF
  rw [if_pos (fun i hi => on_F (by omega) (by omega)), show Pl.num 8 (rdTo MF 4096 8 8) = 8193 by decide]
  decide
theorem look_F1 : lookF (rsF ++ []) MF 8192 1 = ((12288, true, false, false, false), 0) := by
  unfold lookF
  rw [if_pos (fun i hi => on_F (by omega) (by omega)), show Pl.num 8 (rdTo MF 8192 8 8) = 12289 by decide]
  decide
theorem look_F2 : lookF (rsF ++ []) MF 12312 2 = ((20480, false, false, true, false), 0) := by
  unfold lookF
  rw [if_pos (fun i hi => on_F (by omega) (by omega)), show Pl.num 8 (rdTo MF 12312 8 8) = 20483 by decide]
  decide
theorem leaf_F {v : Nat} (h1 : 12288 ≤ v) (h2 : v < 16384) : leafF (rsF ++ []) MF v 3 0 4096 = ((20480, false, false, true, false), 0) := by
  have e0 : 4096 + 8 * (v / (4096 * pgs 0) % 512) = 4096 := by
    have : pgs 0 = 262144 := by decide
    rw [this]; omega
  have e1 : 8192 + 8 * (v / (4096 * pgs 1) % 512) = 8192 := by
    have : pgs 1 = 512 := by decide
    rw [this]; omega
  have e2 : 12288 + 8 * (v / (4096 * pgs 2) % 512) = 12312 := by
    have : pgs 2 = 1 := by decide
    rw [this]; omega
  rw [leafF, e0]
  have l0 := look_F0
  have l1 := look_F1
  have l2 := look_F2
  rw [show ((0 : Nat) : Int) = 0 from rfl, l0, if_neg (by simp), leafF]
  rw [show ((0 + 1 : Nat) : Int) = 1 from rfl]
  rw [show (0 : Nat) + 1 = 1 from rfl, e1, l1, if_neg (by simp), leafF]
  rw [show ((1 + 1 : Nat) : Int) = 2 from rfl]
  rw [show (1 : Nat) + 1 = 2 from rfl, e2, l2, if_pos (by simp)]
theorem adr_F {v : Nat} {acc : Int} (ha : acc = 1 ∨ acc = 3) (h1 : 12288 ≤ v) (h2 : v < 16384) : adrF (rsF ++ []) MF 4096 v acc = if acc = 1 then (20480 + v % 4096, 0) else (0, 44) := by
  unfold adrF
  rw [if_neg (by omega), if_neg (by omega), if_neg (by omega), leaf_F h1 h2]
  rcases ha with rfl | rfl
  · simp [addrB]
  · simp [addrB]
theorem take_F1 : (takeV (rsF ++ []) MF 4096 12288 1 8).2.1 = 0 := by
  have hv : ∀ i, i < 8 → vv 12288 i = 12288 + i := fun i hi => by unfold vv; omega
  have ha : ∀ i, i < 8 → ad (rsF ++ []) MF 4096 12288 1 i = (20480 + (12288 + i) % 4096, 0) := fun i hi => by
    unfold ad
    rw [hv i hi, adr_F (.inl rfl) (by omega) (by omega)]
    rfl
  rw [takeV, reach_ok (fun j hj => by rw [ha j hj]) (fun j hj => by rw [ha j hj]; exact on_F (by omega) (by omega))]
theorem take_F3 : takeV (rsF ++ []) MF 4096 12288 3 8 = (0, 44, 12288) := by
  have ha : ad (rsF ++ []) MF 4096 12288 3 0 = (0, 44) := by
    unfold ad
    rw [show vv 12288 0 = 12288 by decide, adr_F (.inr rfl) (by omega) (by omega)]
    rfl
  rw [takeV, reach_tr (i := 0) (fun j hj => absurd hj (Nat.not_lt_zero _)) (by rw [ha]; decide) (by decide), ha]
  rfl
theorem fits_F : Fits 18446744073709551615 rsF := fun x hx => by
  rw [List.mem_singleton.1 hx]
  decide
theorem refW_F : refW rsF [] = 0 := by decide
set_option maxRecDepth 100000 in
set_option maxHeartbeats 4000000 in
theorem few_any (w : World) : Calls Tryz.prog 16 #[] w fun e w' => ∃ m B V T, e = .returned (.pointer (some ⟨m, 0, none⟩)) ∧ Hid (Mx w' m B V T MF rsF [] 3) ∧ Hid (Below w.heap.size w w') ∧ Hid (w.heap.size ≤ m) := by
  have HNw : Hid (∀ W g, U64.SV W (.slice (some ⟨g, 0, none⟩) 1 1) rsF → Calls Tryz.prog 18 #[.agg #[.slice (some ⟨g, 0, none⟩) 1 1, .slice none 0 0]] W fun e w' => ∃ m B V, e = .returned (.tuple #[.pointer (some ⟨m, 0, none⟩), .int .i64 0]) ∧ Hid (Below W.heap.size W w') ∧ Hid (Mac w' m B V (fun _ => none) (fun _ => 0) rsF [] 0 0 0) ∧ Hid (∀ j, Mine m B V (fun _ => none) j → W.heap.size ≤ j)) := fun W g hS => by
    refine (new_any hS (U64.SV.nil _) fits_F (fun _ h => by cases h)).mono ?_
    rintro e w' ⟨pm, rfl, hb, hm⟩
    rcases hm.out with ⟨h0, _⟩ | ⟨_, m, B, V, rfl, h1, h2⟩
    · exact absurd refW_F h0
    · exact ⟨m, B, V, by rw [refW_F], hb, h1, h2⟩
  go_enter Tryz.func16, Tryz.ntmps16
  go_wp2_with fail
  refine (HNw.out _ _ (U64.one_sv (x := (4096, 65536)) (U64.new2 rfl _ _ _).1 (U64.new2 rfl _ _ _).2)).mono ?_
  rintro e w1 ⟨m, B, V, rfl, HB1, HM1, HJ1⟩
  have hbr : Below w.heap.size w (w.alloc (Obj.cells #[.int .u64 4096, .int .u64 65536] 47)) := (Below.refl _ _).alloc (Nat.le_refl _) _
  have HBw1 : Hid (Below w.heap.size w w1) := hbr.trans (HB1.out.mono hbr.size)
  have HJw : Hid (∀ j, Mine m B V (fun _ => none) j → w.heap.size ≤ j) := fun j hj => Nat.le_trans hbr.size (HJ1.out j hj)
  clear hbr HNw HB1 HJ1
  have HSt : Hid (∀ (W : World) (T : Nat → Option Nat) (M : Nat → Nat) (n a v : Nat), n ≤ 10 → 4096 ≤ a → a + 8 ≤ 69632 → v ≤ 18446744073709551615 → Mac W m B V T M rsF [] 0 n 0 → (∀ j, Mine m B V T j → w.heap.size ≤ j) → Below w.heap.size w W → Calls Tryz.prog 20 #[.pointer (some ⟨m, 0, none⟩), .int .u64 (a : Int), .int .i64 8, .int .u64 (v : Int)] W fun e w' => ∃ T', e = .returned (FaultV 0 0) ∧ Hid (Mac w' m B V T' (putAt M a ((Pl.le 8 v).take 8)) rsF [] 0 (n + 1) 0) ∧ Hid (∀ j, Mine m B V T' j → w.heap.size ≤ j) ∧ Hid (Below w.heap.size w w')) := fun W T M n a v hn ha ha2 hv hm hj hb => by
    refine (store_any (n := 8) hm (by omega) (.inr (.inr (.inr rfl))) hv (by omega) (by omega)).mono ?_
    rintro e w' ⟨x, b, ho, rfl, hk, _, hok⟩
    have hbf : b = false := by
      cases b with
      | false => rfl
      | true =>
        obtain ⟨i, hi, _, _, hnn, _⟩ := ho.1 rfl
        exact absurd (on_F (by omega) (by omega)) hnn
    subst hbf
    obtain ⟨hx, _⟩ := ho.2 rfl
    subst hx
    obtain ⟨T', h1, h2⟩ := hok rfl
    have hge : ∀ j, Mine m B V T' j → w.heap.size ≤ j := fun j hj' => by
      rcases hj' with rfl | hj' | ⟨u, hu, hj'⟩
      · exact hj _ (.inl rfl)
      · by_cases hlt : j < W.heap.size
        · exact hj j (.inr (.inl (h2.foot hj' hlt)))
        · have := hb.size; omega
      · exact hj j (.inr (.inr ⟨u, hu, hj'⟩))
    exact ⟨T', rfl, h1, hge, hb.trans (hk.below hb.size (fun i _ e => hj i (e.elim .inl (fun h => .inr (.inl h)))))⟩
  go_wp2_with fail
  refine (HSt.out w1 _ _ 0 4096 8193 (by omega) (by omega) (by omega) (by omega) HM1.out HJw.out HBw1.out).mono ?_
  rintro e w2 ⟨T2, rfl, HM2, HJ2, HB2⟩
  clear HM1 HJw HBw1
  go_wp2_with fail
  refine (HSt.out w2 _ _ 1 8192 12289 (by omega) (by omega) (by omega) (by omega) HM2.out HJ2.out HB2.out).mono ?_
  rintro e w3 ⟨T3, rfl, HM3, HJ3, HB3⟩
  clear HM2 HJ2 HB2
  go_wp2_with fail
  refine (HSt.out w3 _ _ 2 12312 20483 (by omega) (by omega) (by omega) (by omega) HM3.out HJ3.out HB3.out).mono ?_
  rintro e w4 ⟨T4, rfl, HM4, HJ4, HB4⟩
  clear HM3 HJ3 HB3 HSt
  go_wp2_with fail
  go_ret
  exact ⟨m, B, V, T4, rfl, ⟨0, 3, 0, by omega, by omega, by omega, HM4.out⟩, HB4, HJ4.out m (.inl rfl)⟩
theorem eqlF (w : World) (a b c d : Int) : (binOp .eql 37 (.agg #[.int .i64 a, .int .u64 b]) (.agg #[.int .i64 c, .int .u64 d])).run Tryz.prog w = .ok (.bool ((a == c) && (b == d))) w := by
  have u1 := Tryz.underlying35
  have a1 := Tryz.isAgg35
  have z1 := Tryz.sizeOf35
  have u := Tryz.underlying26
  have a2 := Tryz.isAgg26
  have z := Tryz.sizeOf26
  have hS : Tryz.prog.underlying 37 = some (.struct (Tryz.prog.fieldsOf 37)) := by kernel_rfl
  have hp : Tryz.prog.stoodInHeld 37 = false := by kernel_rfl
  rw [run_eql_struct, show (10000 : Nat) = 9999 + 1 from rfl, run_equalIn_agg w 9999 37 _ _ hS hp]
  simp only [Program.fieldsOf, Tryz.underlying37]
  go_simp
  by_cases h1 : a = c <;> by_cases h2 : b = d <;> simp [h1, h2]
theorem guardF : Tryz.prog.eqGuardType Tryz.prog.depth 37 = false := by kernel_rfl
set_option maxRecDepth 100000 in
set_option maxHeartbeats 4000000 in
theorem awake_any (w : World) : Calls Tryz.prog 4 #[] w fun e w' => e = .returned (.bool true) ∧ Below w.heap.size w w' := by
  go_enter Tryz.func4, Tryz.ntmps4
  go_wp2_with fail
  refine (few_any w).mono ?_
  rintro e w1 ⟨m, B, V, T, rfl, HM1, HB1, HW1⟩
  have HLd : Hid (∀ W, Mx W m B V T MF rsF [] 3 → Calls Tryz.prog 9 #[.iface 29 (.pointer (some ⟨m, 0, none⟩)), .int .u64 4096, .int .u64 12288, .int .i64 8] W fun e w' => ∃ z x : Int, e = .returned (.tuple #[.int .u64 z, .agg #[.int .i64 0, .int .u64 x]]) ∧ Hid (Mx w' m B V T MF rsF [] 35) ∧ Hid (Keeps (fun j => j = m) W w')) := fun W hW => by
    refine (wload_any (t := 4096) (v := 12288) (k := 8) hW (by omega) (by omega) (.inr (.inr (.inr rfl)))).mono ?_
    rintro e w' ⟨rfl, h1, h2⟩
    rw [take_F1]
    exact ⟨_, _, rfl, h1, h2⟩
  have HFt : Hid (∀ W, Mx W m B V T MF rsF [] 35 → Calls Tryz.prog 10 #[.iface 29 (.pointer (some ⟨m, 0, none⟩)), .int .u64 4096, .int .u64 12288, .int .i64 8] W fun e w' => e = .returned (.tuple #[.int .u64 0, .agg #[.int .i64 44, .int .u64 12288]]) ∧ Hid (Keeps (fun j => j = m) W w')) := fun W hW => by
    refine (wfetch_any (t := 4096) (v := 12288) (k := 8) hW (by omega) (by omega) (.inr (.inr (.inr rfl)))).mono ?_
    rintro e w' ⟨rfl, h1, h2⟩
    rw [take_F3]
    exact ⟨rfl, h2⟩
  have hml := HM1.out.lt
  go_wp2_with fail
  refine (HLd.out _ HM1.out).mono ?_
  rintro e w2 ⟨z, x, rfl, HM2, HK2⟩
  have HB2 : Hid (Below w.heap.size w w2) := HB1.out.trans (HK2.out.below HB1.out.size (fun i _ e => by have := HW1.out; have e : i = m := e; omega))
  have hb3 : Below w2.heap.size w2 (w2.alloc (Obj.cells #[.int .i64 0, .int .u64 x] 37)) := (Below.refl _ _).alloc (Nat.le_refl _) _
  have HM3 := Lib.hid (HM2.out.below hb3)
  have HF3 := Lib.hid (BoxF.new w2 0 x)
  have HB3 : Hid (Below w.heap.size w (w2.alloc (Obj.cells #[.int .i64 0, .int .u64 x] 37))) := HB2.out.alloc HB2.out.size _
  have hm2 := HM2.out.lt
  clear hb3 HLd HM1 HK2
  go_wp2_with fail
  refine (HFt.out _ HM3.out).mono ?_
  rintro e w4 ⟨rfl, HK4⟩
  have HF4 : Hid (BoxF w4 w2.heap.size 0 x) := HF3.out.keeps HK4.out (show ¬ w2.heap.size = m by omega)
  have HB4 : Hid (Below w.heap.size w w4) := HB3.out.trans (HK4.out.below HB3.out.size (fun i _ e => by have := HW1.out; have e : i = m := e; omega))
  have y0 := fun X => U64.cell_alloc' X HF4.out.cells.1
  have hef := eqlF
  have hge : ∀ W x y, (eqGuard .eql 37 x y (.agg #[.int .i64 44, .int .u64 12288]) (.agg #[.int .i64 44, .int .u64 12288])).run Tryz.prog W = .ok () W := fun W x y => run_eqGuard_agg W _ _ _ _ _ _ guardF
  clear HFt HK4 HM3 HF3
  go_wp2_with fail
  go_ret
  exact ⟨rfl, HB4.out.alloc HB4.out.size _⟩
end Go.Proofs.YtmaahompmgmkfaaGreat
/- bulkheadlaw4.split: an access worked out of its bytes. Own work. -/
namespace Go.Proofs.YtmaahompmgmkfaaGreat
open Go.RowKit Go.Maps Go.Proofs.YtmaahompmgmkfaaGreat.Sp Wk
/-- the number that the first p bytes of an access are -/
noncomputable def sN (LL : List Sp) (M : Nat → Nat) (t v : Nat) (acc : Int) : Nat → Nat
  | 0 => 0
  | p + 1 => sN LL M t v acc p + M (ad LL M t v acc p).1 * 256 ^ p
theorem sN_lt {LL : List Sp} {M : Nat → Nat} (hM : ∀ p, M p < 256) (t v : Nat) (acc : Int) : ∀ p, sN LL M t v acc p < 256 ^ p
  | 0 => by simp [sN]
  | p + 1 => by
    have ih := sN_lt (LL := LL) hM t v acc p
    have h := hM (ad LL M t v acc p).1
    have h2 : M (ad LL M t v acc p).1 * 256 ^ p ≤ 255 * 256 ^ p := Nat.mul_le_mul_right _ (by omega)
    rw [sN, Nat.pow_succ]
    omega
theorem take_sN {LL : List Sp} {M : Nat → Nat} {t v : Nat} {acc : Int} {k : Nat} (hk : Wide k) : takeN LL M t v acc k = sN LL M t v acc k := by
  have hr : List.range 8 = [0, 1, 2, 3, 4, 5, 6, 7] := rfl
  rcases hk with rfl | rfl | rfl | rfl
  all_goals
    simp only [takeN, upB, hr, List.map_cons, List.map_nil, Pl.num, Pl.acc, sN]
    simp
    try omega
theorem orW {N z p : Nat} (hN : N < 256 ^ p) (hz : z < 256) (hp : p < 8) : bits .or .u64 (N : Int) (IntKind.u64.wrap ((z : Int) * 2 ^ (8 * p))) = ((N + z * 256 ^ p : Nat) : Int) := by
  have e : (2 : Nat) ^ (8 * p) = 256 ^ p := by rw [Nat.pow_mul]
  have hpp : (256 : Nat) ^ p ≤ 256 ^ 7 := Nat.pow_le_pow_right (by decide) (by omega)
  have hmul : z * 256 ^ p ≤ 255 * 256 ^ p := Nat.mul_le_mul_right _ (by omega)
  have e2 : (z : Int) * 2 ^ (8 * p) = ((z * 256 ^ p : Nat) : Int) := by
    rw [← e]
    push_cast
    rfl
  have hw : IntKind.u64.wrap ((z : Int) * 2 ^ (8 * p)) = ((z * 256 ^ p : Nat) : Int) := by
    rw [e2, IntKind.wrap_u64]
    omega
  rw [hw, u64_or_nat N (z * 256 ^ p) (by omega) (by omega)]
  congr 1
  have h2 := Nat.two_pow_add_eq_or_of_lt (i := 8 * p) (b := N) (by rw [e]; exact hN) z
  rw [e] at h2
  rw [Nat.or_comm, Nat.mul_comm z, ← h2]
  omega
set_option maxRecDepth 100000 in
set_option maxHeartbeats 8000000 in
theorem split_any {w : World} {m B : Nat} {V : Value × Value × Value} {T : Nat → Option Nat} {M : Nat → Nat} {rs ds : List Sp} {n t v k : Nat} {acc : Int} (h : Mx w m B V T M rs ds n) (ht : t ≤ 18446744073709551615) (hn : n ≤ 4611686018427370000) (hk : Wide k) :
    Calls Tryz.prog 8 #[.pointer (some ⟨m, 0, none⟩), .int .u64 (t : Int), .int .u64 (v : Int), .int .i64 (k : Int), .int .i64 acc] w fun e w' => e = .returned (.tuple #[.int .u64 ((takeV (rs ++ ds) M t v acc k).1 : Int), FaultV (takeV (rs ++ ds) M t v acc k).2.1 ((takeV (rs ++ ds) M t v acc k).2.2 : Int)]) ∧ Hid (Mx w' m B V T M rs ds (n + 32)) ∧ Hid (Keeps (fun j => j = m) w w') := by
  have HM : Hid (Mx w m B V T M rs ds n) := h
  have hml := h.lt
  have k8 : k ≤ 8 := by rcases hk with h | h | h | h <;> omega
  have HSm : Hid (∀ p, M p < 256) := h.small
  have HTk : Hid (takeN (rs ++ ds) M t v acc k = sN (rs ++ ds) M t v acc k) := take_sN hk
  have HTr : Hid (∀ W i s, i < k → s ≤ 24 → Mx W m B V T M rs ds (n + s) → Calls Tryz.prog 12 #[.iface 29 (.pointer (some ⟨m, 0, none⟩)), .int .u64 (t : Int), .int .u64 (vv v i : Int), .int .i64 acc] W fun e w' => e = .returned (.tuple #[.int .u64 ((ad (rs ++ ds) M t v acc i).1 : Int), FaultV (ad (rs ++ ds) M t v acc i).2 (whyAt (ad (rs ++ ds) M t v acc i).2 (vv v i) : Int)]) ∧ Hid (Mx w' m B V T M rs ds (n + s + 1)) ∧ Hid (Keeps (fun j => j = m) W w')) := fun W i s hi hs hW => translate_any hW ht (by unfold vv; omega) (by omega)
  have HPk : Hid (∀ W s, s ≤ 24 → ∀ a : Nat, a ≤ 18446744073709551615 → Mx W m B V T M rs ds (n + s) → Calls Tryz.prog 22 #[.pointer (some ⟨m, 0, none⟩), .int .u64 (a : Int), .int .i64 1] W fun e w' => ∃ x b, e = .returned (.tuple #[.int .u64 (if b then 0 else ((M a : Nat) : Int)), FaultV (if b then 30 else 0) x]) ∧ Hid (b = true ↔ ¬ On (rs ++ ds) (a : Int)) ∧ Hid (Mx w' m B V T M rs ds (n + s + 1)) ∧ Hid (Keeps (fun j => j = m) W w')) := fun W s hs a ha ⟨L, S, X, h1, h2, h3, h4⟩ => by
    refine (peek_any (n := 1) h4 ha (Or.inl rfl) (by omega)).mono ?_
    rintro e w' ⟨x, b, ho, rfl, hm, hk⟩
    rw [num_one]
    refine ⟨x, b, rfl, ?_, ⟨L, S, up b X, by omega, by omega, by cases b <;> simp [up] <;> omega, hm⟩, hk⟩
    cases b with
    | true =>
      obtain ⟨i, hi, _, _, hn, _⟩ := ho.1 rfl
      obtain rfl : i = 0 := by omega
      exact ⟨fun _ => by simpa using hn, fun _ => rfl⟩
    | false =>
      have := (ho.2 rfl).2 0 (by omega)
      exact ⟨fun h => (by cases h), fun h => absurd (by simpa using this) h⟩
  have HAd : Hid (∀ i, (ad (rs ++ ds) M t v acc i).1 ≤ 18446744073709551615) := fun i => adrF_le _ _ _ _ _
  generalize rs ++ ds = LL at *
  have HX0 : Hid (BoxF (w.alloc (Obj.cells #[.int .i64 0, .int .u64 0] 37)) w.heap.size 0 0) := BoxF.new w 0 0
  have HB0 : Hid (Below w.heap.size w (w.alloc (Obj.cells #[.int .i64 0, .int .u64 0] 37))) := (Below.refl _ _).alloc (Nat.le_refl _) _
  clear hk h
  go_enter Tryz.func8, Tryz.ntmps8
  go_wp2_with fail
  go_loopw [12] (fun iv wr => ∃ q : Nat, q ≤ k ∧ iv = .int .i64 (q : Int) ∧ Hid (BoxF wr w.heap.size 0 0) ∧ Hid (Mx wr m B V T M rs ds (n + q)) ∧ Hid (Keeps (fun j => j = m) w wr) ∧ Hid (∀ j, j < q → (ad LL M t v acc j).2 = 0)) (fun iv _ => k - (intOf iv).toNat)
  case atStart => exact ⟨0, Nat.zero_le _, rfl, HX0, HM.out.below HB0.out, Keeps.of_below HB0.out, fun j hj => absurd hj (Nat.not_lt_zero _)⟩
  case round =>
    clear HX0 HB0
    obtain ⟨q, hq, rfl, HXr, HMr, HKr, HZ⟩ := hrel
    by_cases hlt : q < k
    · have HCl := Lib.hid (HTr.out wr q q hlt (by omega) HMr.out)
      have hwv : IntKind.u64.wrap ((v : Int) + (q : Int)) = (vv v q : Int) := by rw [IntKind.wrap_u64, vv]; omega
      have HBad : Hid ((ad LL M t v acc q).2 ≠ 0 → reachF LL M t v acc k = some ((ad LL M t v acc q).2, vv v q)) := fun h => reach_tr HZ.out h hlt
      have HGo : Hid ((ad LL M t v acc q).2 = 0 → ∀ j, j < q + 1 → (ad LL M t v acc j).2 = 0) := fun h j hj => by
        by_cases e : j = q
        · rw [e]; exact h
        · exact HZ.out j (by omega)
      generalize ad LL M t v acc q = r at *
      obtain ⟨r1, r2⟩ := r
      simp only at HCl HBad HGo
      generalize hx : vv v q = x at *
      clear hx
      go_wp2_with fail
      refine HCl.out.mono ?_
      rintro e w2 ⟨rfl, HM2, HK2⟩
      have hm1 : m < w.heap.size := hml
      have HX2 : Hid (BoxF w2 w.heap.size 0 0) := HXr.out.keeps HK2.out (by omega)
      have HKw2 : Hid (Keeps (fun j => j = m) w w2) := HKr.out.trans HK2.out (fun _ _ e => e)
      have hlt2 := HX2.out.lt
      clear HCl HK2
      unfold FaultV
      by_cases h0 : r2 = 0
      · subst h0
        generalize (whyAt 0 x : Int) = wa at *
        have HB3 : Hid (Below w2.heap.size w2 (w2.alloc (Obj.cells #[.int .i64 0, .int .u64 wa] 37))) := (Below.refl _ _).alloc (Nat.le_refl _) _
        go_wp2_with fail
        go_roundw
        case rel => exact ⟨q + 1, by omega, by go_num, HX2.out.below HB3.out, HM2.out.below HB3.out, HKw2.out.trans (Keeps.of_below (S := fun _ => False) HB3.out) (fun _ _ h => h.elim), HGo.out (by trivial)⟩
        case measure => simp [intOf]; omega
      · have h0e : (r2 == 0) = false := by simpa using h0
        have HRc : Hid (takeV LL M t v acc k = (0, r2, x)) := by show _ = _; rw [takeV, HBad.out h0]
        have hwx : whyAt r2 x = x := if_neg h0
        rw [hwx]
        obtain ⟨W3, hW3⟩ : ∃ W3, w2.alloc (Obj.cells #[.int .i64 r2, .int .u64 (x : Int)] 37) = W3 := ⟨_, rfl⟩
        have HF3 : Hid (BoxF W3 w2.heap.size r2 x) := hW3 ▸ BoxF.new w2 r2 x
        have HX3 : Hid (BoxF W3 w.heap.size 0 0) := hW3 ▸ HX2.out.below ((Below.refl _ _).alloc (Nat.le_refl _) _)
        have HB3 : Hid (Below w2.heap.size w2 W3) := hW3 ▸ (Below.refl _ _).alloc (Nat.le_refl _) _
        have hne : w.heap.size ≠ w2.heap.size := by omega
        obtain ⟨x0, x1, f0, f1⟩ := HX3.out.cells
        obtain ⟨y0, y1, _, _⟩ := HF3.out.cells
        clear HBad HGo
        go_wp2_with fail
        clear hW3
        go_region_held3 (fun w' => w'.cell? ⟨w2.heap.size, 0, none⟩ = some (.int .i64 r2) ∧ w'.cell? ⟨w2.heap.size, 1, none⟩ = some (.int .u64 (x : Int))) (go_keep) (fail)
        go_wp2_with fail
        obtain ⟨d0, d1, _⟩ := BoxF.cells (w := ((W3.setCell ⟨w.heap.size, 0, none⟩ (.int .i64 r2)).setCell ⟨w.heap.size, 1, none⟩ (.int .u64 (x : Int))).drew) (HX3.out.set r2 x)
        refine bodyPost_ret (v := .tuple #[.int .u64 0, .agg #[.int .i64 r2, .int .u64 (x : Int)]]) (by simp [results, Tryz.results8, go_sem, d0, d1]) rfl ?_
        have hk2 : Keeps (fun j => j = w.heap.size) W3 (((W3.setCell ⟨w.heap.size, 0, none⟩ (.int .i64 r2)).setCell ⟨w.heap.size, 1, none⟩ (.int .u64 (x : Int))).drew) := (Keeps.two W3 w.heap.size (.int .i64 r2) (.int .u64 (x : Int))).drew
        exact ⟨by rw [HRc.out]; rfl, ((HM2.out.mono (by omega)).below HB3.out).keeps hk2 (fun j hj e => by have := HM.out.mine_lt hj; omega), (HKw2.out.trans (Keeps.of_below (S := fun _ => False) HB3.out) (fun _ _ h => h.elim)).trans hk2 (fun i hi e => absurd e (by omega))⟩
    · obtain rfl : q = k := by omega
      obtain ⟨w2, hw2⟩ : ∃ w2, w2 = wr := ⟨_, rfl⟩
      subst hw2
      clear hlt hq
      go_wp2_with fail
      go_loopw [16, 15] (fun iv nv wr => ∃ p : Nat, p ≤ q ∧ iv = .int .i64 (p : Int) ∧ nv = .int .u64 (sN LL M t v acc p : Int) ∧ Hid (BoxF wr w.heap.size 0 0) ∧ Hid (Mx wr m B V T M rs ds (n + q + 2 * p)) ∧ Hid (Keeps (fun j => j = m) w wr) ∧ Hid (∀ j, j < p → On LL ((ad LL M t v acc j).1 : Int))) (fun iv _ _ => q - (intOf iv).toNat)
      case atStart => exact ⟨0, Nat.zero_le _, rfl, rfl, HXr, HMr, HKr, fun j hj => absurd hj (Nat.not_lt_zero _)⟩
      case round =>
        clear HXr HMr HKr
        obtain ⟨p, hp, rfl, rfl, HXr, HMr, HKr, HO⟩ := hrel
        by_cases hlt : p < q
        · have HCl := Lib.hid (HTr.out wr p (q + 2 * p) hlt (by omega) (by rw [Nat.add_assoc] at HMr; exact HMr.out))
          have hwv : IntKind.u64.wrap ((v : Int) + (p : Int)) = (vv v p : Int) := by rw [IntKind.wrap_u64, vv]; omega
          have HPk2 := Lib.hid (fun W => HPk.out W (q + 2 * p + 1) (by omega) (ad LL M t v acc p).1 (HAd.out p))
          have HOff : Hid (¬ On LL ((ad LL M t v acc p).1 : Int) → takeV LL M t v acc q = (0, 30, vv v p)) := fun h => by rw [takeV, reach_off HZ.out HO.out h hlt]
          have HGo : Hid (On LL ((ad LL M t v acc p).1 : Int) → ∀ j, j < p + 1 → On LL ((ad LL M t v acc j).1 : Int)) := fun h j hj => by
            by_cases e : j = p
            · rw [e]; exact h
            · exact HO.out j (by omega)
          have HNx : Hid (sN LL M t v acc (p + 1) = sN LL M t v acc p + M (ad LL M t v acc p).1 * 256 ^ p) := rfl
          have hsl := sN_lt (LL := LL) HSm.out t v acc p
          have hz := HSm.out (ad LL M t v acc p).1
          generalize ad LL M t v acc p = r at *
          obtain ⟨r1, r2⟩ := r
          simp only at HCl HPk2 HOff HGo HNx hz
          generalize M r1 = z at *
          generalize sN LL M t v acc p = N at *
          generalize vv v p = x at *
          clear HTk
          go_wp2_with fail
          refine HCl.out.mono ?_
          rintro e w3 ⟨rfl, HM3, HK3⟩
          have hm1 : m < w.heap.size := hml
          have HX3 : Hid (BoxF w3 w.heap.size 0 0) := HXr.out.keeps HK3.out (by omega)
          have HKw3 : Hid (Keeps (fun j => j = m) w w3) := HKr.out.trans HK3.out (fun _ _ e => e)
          clear HCl HK3
          unfold FaultV
          generalize (whyAt r2 x : Int) = wa at *
          have HB3 : Hid (Below w3.heap.size w3 (w3.alloc (Obj.cells #[.int .i64 r2, .int .u64 wa] 37))) := (Below.refl _ _).alloc (Nat.le_refl _) _
          go_wp2_with fail
          refine (HPk2.out _ (HM3.out.below HB3.out)).mono ?_
          rintro e w4 ⟨y, b, rfl, HBo, HM4, HK4⟩
          have HX4 : Hid (BoxF w4 w.heap.size 0 0) := (HX3.out.below HB3.out).keeps HK4.out (by omega)
          have HKw4 : Hid (Keeps (fun j => j = m) w w4) := (HKw3.out.trans (Keeps.of_below (S := fun _ => False) HB3.out) (fun _ _ h => h.elim)).trans HK4.out (fun _ _ e => e)
          clear HPk2 HK4
          unfold FaultV
          cases b with
          | true =>
            have HV := Lib.hid (HOff.out (HBo.out.1 rfl))
            simp only [if_true]
            have HB5 : Hid (Below w4.heap.size w4 (w4.alloc (Obj.cells #[.int .i64 30, .int .u64 y] 37))) := (Below.refl _ _).alloc (Nat.le_refl _) _
            have HX5 : Hid (BoxF (w4.alloc (Obj.cells #[.int .i64 30, .int .u64 y] 37)) w.heap.size 0 0) := HX4.out.below HB5.out
            obtain ⟨x0, x1, f0, f1⟩ := HX5.out.cells
            clear HOff HGo HBo HNx
            go_wp2_with fail
            obtain ⟨d0, d1, _⟩ := (HX5.out.set 30 x).cells
            refine bodyPost_ret (v := .tuple #[.int .u64 0, .agg #[.int .i64 30, .int .u64 (x : Int)]]) (by simp [results, Tryz.results8, go_sem, d0, d1]) rfl ?_
            have hk2 := Keeps.two (w4.alloc (Obj.cells #[.int .i64 30, .int .u64 y] 37)) w.heap.size (.int .i64 30) (.int .u64 (x : Int))
            exact ⟨by rw [HV.out]; rfl, ((HM4.out.mono (by omega)).below HB5.out).keeps hk2 (fun j hj e => by have := HM.out.mine_lt hj; omega), (HKw4.out.trans (Keeps.of_below (S := fun _ => False) HB5.out) (fun _ _ h => h.elim)).trans hk2 (fun i hi e => absurd e (by omega))⟩
          | false =>
            have hon : On LL (r1 : Int) := by
              by_cases h : On LL (r1 : Int)
              · exact h
              · have := HBo.out.2 h; cases this
            have HGo2 := Lib.hid (HGo.out hon)
            simp only [Bool.false_eq_true, if_false]
            clear HOff HGo HBo hon
            have HOr := Lib.hid (orW hsl hz (by omega : p < 8))
            have HB5 : Hid (Below w4.heap.size w4 (w4.alloc (Obj.cells #[.int .i64 0, .int .u64 y] 37))) := (Below.refl _ _).alloc (Nat.le_refl _) _
            go_wp2_with fail
            refine ⟨⟨p + 1, by omega, by go_num, by rw [HOr.out, HNx.out], HX4.out.below HB5.out, (HM4.out.mono (by omega)).below HB5.out, HKw4.out.trans (Keeps.of_below (S := fun _ => False) HB5.out) (fun _ _ h => h.elim), HGo2⟩, ?_⟩
            simp [intOf]
            omega
        · obtain rfl : p = q := by omega
          have HV : Hid (takeV LL M t v acc p = (sN LL M t v acc p, 0, 0)) := by show _ = _; rw [takeV, reach_ok HZ.out HO.out, HTk.out]
          generalize sN LL M t v acc p = N at *
          obtain ⟨x0, x1, f0, f1⟩ := HXr.out.cells
          go_wp2_with fail
          obtain ⟨d0, d1, _⟩ := (HXr.out.set 0 0).cells
          refine bodyPost_ret (v := .tuple #[.int .u64 (N : Int), .agg #[.int .i64 0, .int .u64 0]]) (by simp [results, Tryz.results8, go_sem, d0, d1]) rfl ?_
          have hk2 := Keeps.two wr w.heap.size (.int .i64 0) (.int .u64 0)
          exact ⟨by rw [HV.out]; rfl, (HMr.out.mono (by omega)).keeps hk2 (fun j hj e => by have := HM.out.mine_lt hj; omega), HKr.out.trans hk2 (fun i hi e => absurd e (by omega))⟩
end Go.Proofs.YtmaahompmgmkfaaGreat
/- The document's own machine with pages: what its Store keeps. Own work. -/
namespace Go.Proofs.YtmaahompmgmkfaaGreat
open Go.RowKit Go.Maps Go.Proofs.YtmaahompmgmkfaaGreat.Sp Wk
/-- a row of bytes of which only that is known -/
def U8 (w : World) (g n : Nat) : Prop := ∃ cur : Array Value, w.heap[g]? = some (.cells cur 5 (0, 0)) ∧ ∀ i, i < n → ∃ z : Nat, z < 256 ∧ cur[i]? = some (.int .u8 (z : Int))
theorem U8.lt {w : World} {g n : Nat} (h : U8 w g n) : g < w.heap.size := by obtain ⟨_, h, _⟩ := h; exact (Array.getElem?_eq_some_iff.1 h).1
theorem U8.cell {w : World} {g n : Nat} (h : U8 w g n) (i : Nat) (hi : i < n) : ∃ z : Nat, z < 256 ∧ w.cell? ⟨g, i, none⟩ = some (.int .u8 (z : Int)) := by
  obtain ⟨cur, h0, h1⟩ := h
  obtain ⟨z, h2, h3⟩ := h1 i hi
  exact ⟨z, h2, by rw [cell_of_row _ _ _ _ _ _ h0]; exact h3⟩
theorem U8.thawed {w : World} {g n : Nat} (h : U8 w g n) (i : Nat) : w.frozen? ⟨g, i, none⟩ = false := by
  obtain ⟨cur, h0, h1⟩ := h
  simp [World.frozen?, h0]
theorem U8.keeps {Z : Nat → Prop} {w w' : World} {g n : Nat} (h : U8 w g n) (hk : Keeps Z w w') (hn : ¬ Z g) : U8 w' g n := by
  obtain ⟨cur, h0, h1⟩ := id h
  exact ⟨cur, (hk.block g h.lt hn).trans h0, h1⟩
theorem U8.set {w : World} {g n : Nat} (h : U8 w g n) (g' o z : Nat) (hz : z < 256) : U8 (w.setCell ⟨g', o, none⟩ (.int .u8 (z : Int))) g n := by
  by_cases e : g = g'
  · subst e
    obtain ⟨cur, h0, h1⟩ := h
    refine ⟨cur.setIfInBounds o (.int .u8 (z : Int)), by simp [World.setCell, Array.getElem?_modify, h0], fun i hi => ?_⟩
    obtain ⟨y, h2, h3⟩ := h1 i hi
    by_cases eo : o = i
    · subst eo
      refine ⟨z, hz, ?_⟩
      rw [Array.getElem?_setIfInBounds]
      have := (Array.getElem?_eq_some_iff.1 h3).1
      simp [this]
    · exact ⟨y, h2, by rw [Array.getElem?_setIfInBounds, if_neg eo]; exact h3⟩
  · exact h.keeps (Keeps.setCell w g' o _) e
def encP (x : Int × Nat) : List Value := [.int .u64 x.1, .slice (some ⟨x.2, 0, none⟩) 4096 4096]
def encPs (xs : List (Int × Nat)) : List Value := xs.flatMap encP
theorem encPs_length (xs : List (Int × Nat)) : (encPs xs).length = xs.length * 2 := by
  induction xs with
  | nil => rfl
  | cons x xs ih => simp only [encPs, List.flatMap_cons, List.length_append, List.length_cons] at ih ⊢; rw [ih]; simp only [encP, List.length_cons, List.length_nil]; omega
theorem encPs_append (xs ys : List (Int × Nat)) : encPs (xs ++ ys) = encPs xs ++ encPs ys := by simp [encPs]
theorem encPs_one (xs : List (Int × Nat)) : ∀ u ∈ encPs xs, u.oneCell' = true := by
  intro u hu
  obtain ⟨x, _, h⟩ := List.mem_flatMap.1 hu
  simp only [encP, List.mem_cons, List.not_mem_nil, or_false] at h
  rcases h with rfl | rfl <;> rfl
theorem encPs_get (xs : List (Int × Nat)) (j : Nat) (h : j < xs.length) : (encPs xs)[j * 2]? = some (.int .u64 xs[j].1) ∧ (encPs xs)[j * 2 + 1]? = some (.slice (some ⟨xs[j].2, 0, none⟩) 4096 4096) := by
  induction xs generalizing j with
  | nil => simp at h
  | cons x xs ih =>
    cases j with
    | zero => exact ⟨rfl, rfl⟩
    | succ j =>
      have := ih j (by simpa using h)
      rw [show encPs (x :: xs) = encP x ++ encPs xs from rfl, List.getElem?_append_right (by simp [encP]; omega), List.getElem?_append_right (by simp [encP]; omega)]
      rw [show (j + 1) * 2 - (encP x).length = j * 2 by simp [encP]; omega, show (j + 1) * 2 + 1 - (encP x).length = j * 2 + 1 by simp [encP]; omega]
      exact this
/-- a row of pages that is owned from base on -/
def OwnP (w : World) (base : Nat) (v : Value) (ps : List (Int × Nat)) : Prop := w.ownsRow base 120 2 v ps.length (encPs ps)
theorem OwnP.keeps {Z : Nat → Prop} {w w' : World} {base : Nat} {v : Value} {ps : List (Int × Nat)} (h : OwnP w base v ps) (hk : Keeps Z w w') (hn : ∀ k, v.ownBlock = some k → ¬ Z k) : OwnP w' base v ps := by
  refine ⟨h.1, ?_⟩
  rcases h.2 with hv | ⟨g, cap, cur, rfl, hbb, hgg, rest⟩
  · exact .inl hv
  · exact .inr ⟨g, cap, cur, rfl, hbb, (hk.block g (Array.getElem?_eq_some_iff.1 hgg).1 (hn g rfl)).trans hgg, rest⟩
theorem OwnP.form {w : World} {base : Nat} {v : Value} {ps : List (Int × Nat)} (h : OwnP w base v ps) : ∃ a c, v = .slice a ps.length c ∧ ps.length ≤ c ∧ c ≤ maxLen ∧ ∀ k, v.ownBlock = some k → base ≤ k ∧ ∃ cur, w.heap[k]? = some (.cells cur 120 (0, 0)) := by
  rcases h.2 with ⟨rfl, h0⟩ | ⟨g, cap, cur, rfl, hbb, hgg, h1, h2, _⟩
  · exact ⟨none, 0, by rw [h0], by omega, Nat.zero_le _, fun k e => by cases e⟩
  · exact ⟨_, cap, rfl, h1, h2, fun k e => by cases e; exact ⟨hbb, cur, hgg⟩⟩
theorem OwnP.cell {w : World} {base : Nat} {a : Option Addr} {n c : Nat} {ps : List (Int × Nat)} (h : OwnP w base (.slice a n c) ps) (j : Nat) (hj : j < ps.length) : ∃ g, a = some ⟨g, 0, none⟩ ∧ w.cell? ⟨g, j * 2, none⟩ = some (.int .u64 ps[j].1) ∧ w.cell? ⟨g, j * 2 + 1, none⟩ = some (.slice (some ⟨ps[j].2, 0, none⟩) 4096 4096) := by
  rcases h.2 with ⟨e, h0⟩ | ⟨g, cap, cur, e, hbb, hgg, h1, h2, h3, h4⟩
  · omega
  · cases e
    have hg := encPs_get ps j hj
    refine ⟨g, rfl, ?_, ?_⟩
    · rw [cell_of_row w g (j * 2) _ _ _ hgg, ← Array.getElem?_toList, ← hg.1, ← h4, List.getElem?_take_of_lt (by omega)]
    · rw [cell_of_row w g (j * 2 + 1) _ _ _ hgg, ← Array.getElem?_toList, ← hg.2, ← h4, List.getElem?_take_of_lt (by omega)]
theorem info_pg : (Tryz.prog.info? 120).map (fun i => (i.zero, i.size, i.bytes)) = some (some (.agg #[.int .u64 0, .slice none 0 0]), 2, 32) := by kernel_rfl
theorem run_appP {w : World} {base : Nat} {v : Value} {ps : List (Int × Nat)} {x : Int × Nat} {g cap : Nat} (ty : TypeId) (hv : OwnP w base v ps) (h0 : w.cell? ⟨g, 0, none⟩ = some (.int .u64 x.1)) (h1 : w.cell? ⟨g, 1, none⟩ = some (.slice (some ⟨x.2, 0, none⟩) 4096 4096)) (hlen : ps.length ≤ 1099511627776) (hbase : base ≤ w.heap.size) :
    ∃ v' w', (Builtin.append_ #[90, 90] ty #[v, .slice (some ⟨g, 0, none⟩) 1 cap]).run Tryz.prog w = .ok v' w' ∧ OwnP w' base v' (ps ++ [x]) ∧ w.grownBy w' v.ownBlock := by
  obtain ⟨i, hi, hz0, hz1, hz2⟩ := info_parts info_pg
  obtain ⟨v', w', r1, r2, r3, _⟩ := run_append_own_at (P := Tryz.prog) w base 90 ty 120 i _ 2 _ Tryz.underlying90 hi hz0 hz1 hz2 rfl (by omega) v ps.length (encPs ps) hv ⟨g, 0, none⟩ 1 cap (encP x) rfl (fun j u hj => by
    have hj2 : j < 2 := by have := (List.getElem?_eq_some_iff.1 hj).1; simpa [encP] using this
    rw [Addr.add_lit, Nat.zero_add]
    rcases (by omega : j = 0 ∨ j = 1) with rfl | rfl
    · rw [h0]; exact hj
    · rw [h1]; exact hj) (fun u hu => encPs_one [x] u (by simpa [encPs] using hu)) (by unfold maxLen; omega) (by omega) hbase
  refine ⟨v', w', r1, ?_, r3⟩
  unfold OwnP
  rw [List.length_append, encPs_append]
  have e : encPs [x] = encP x := by simp [encPs]
  rw [e]
  exact r2
theorem step_appP {w : World} {ops : Array Oper} {o : Oper} {a : Act} {K : Act → World → Prop} {Q : Exit → Act → World → Prop} {E : Prop} {base : Nat} {v : Value} {ps : List (Int × Nat)} {x : Int × Nat} {g cap : Nat} (hw : Region.wanted o (yielded ops a.tmps) = true) (s y : Operand)
    (ho : o.op = .call { callee := .builtin .append, args := #[s, y], argTypes := #[90, 90] }) (hs : a.eval s = v) (hv : OwnP w base v ps) (hy : a.eval y = .slice (some ⟨g, 0, none⟩) 1 cap) (h0 : w.cell? ⟨g, 0, none⟩ = some (.int .u64 x.1)) (h1 : w.cell? ⟨g, 1, none⟩ = some (.slice (some ⟨x.2, 0, none⟩) 4096 4096)) (hlen : ps.length ≤ 1099511627776) (hbase : base ≤ w.heap.size)
    (h : ∀ va vn vc w', OwnP w' base (.slice va vn vc) (ps ++ [x]) → w.grownBy w' v.ownBlock → K (a.put o.dst (.slice va vn vc)) w') : if Region.wanted o (yielded ops a.tmps) = true then Oper.wp Tryz.prog o a w K Q else E := by
  rw [if_pos hw]
  obtain ⟨v', w', hr, h2, h3⟩ := run_appP (cap := cap) o.type hv h0 h1 hlen hbase
  obtain ⟨va, vc, rfl, _⟩ := h2.form
  unfold Oper.wp
  simp only [execOp, ho, resolve, invoke, builtin, Sem.run_bind, Sem.run_pure, List.map_toArray, List.map_cons, List.map_nil, hs, hy, hr, Result.andThen_ok]
  exact h va _ vc w' h2 h3
/-- what a machine of the document's own may write -/
def VB (base : Nat) (w : World) (j : Nat) : Prop := base ≤ j ∧ ∃ c t fr, w.heap[j]? = some (.cells c t fr) ∧ (t = 92 ∨ t = 120 ∨ t = 5)
def Kv (base : Nat) (w w' : World) : Prop := Keeps (VB base w) w w'
theorem Kv.refl (base : Nat) (w : World) : Kv base w w := Keeps.refl _ _
theorem Kv.trans {base : Nat} {a b c : World} (h : Kv base a b) (k : Kv base b c) : Kv base a c := by
  refine ⟨k.os.trans h.os, k.tape.trans h.tape, k.output.trans h.output, Nat.le_trans h.size k.size, fun i hi hn => ?_⟩
  have e := h.block i hi hn
  refine (k.block i (Nat.lt_of_lt_of_le hi h.size) (fun hs => hn ?_)).trans e
  obtain ⟨h1, cc, t, fr, h2, h3⟩ := hs
  exact ⟨h1, cc, t, fr, e.symm.trans h2, h3⟩
theorem Kv.of {base : Nat} {w w' : World} {S : Nat → Prop} (h : Keeps S w w') (hs : ∀ k, k < w.heap.size → S k → VB base w k) : Kv base w w' := h.mono hs
theorem Kv.below {base : Nat} {w w' : World} (h : Below w.heap.size w w') : Kv base w w' := Kv.of (Keeps.of_below (S := fun _ => False) h) (fun _ _ h => h.elim)
/-- a machine of the document's own: its block, its row of pages, their bytes -/
def RS (w : World) (base v : Nat) (vr vd vp : Value) (ps : List (Int × Nat)) (L S X : Nat) : Prop := base ≤ v ∧ RBox w v vr vd vp L S X ∧ OwnP w base vp ps ∧ ∀ x ∈ ps, base ≤ x.2 ∧ U8 w x.2 4096
theorem RS.keeps {Z : Nat → Prop} {w w' : World} {base v : Nat} {vr vd vp : Value} {ps : List (Int × Nat)} {L S X : Nat} (h : RS w base v vr vd vp ps L S X) (hk : Keeps Z w w') (hn : ∀ j, VB base w j → ¬ Z j) : RS w' base v vr vd vp ps L S X := by
  obtain ⟨h0, h1, h2, h3⟩ := h
  refine ⟨h0, h1.keeps hk (hn v ⟨h0, _, _, _, h1, .inl rfl⟩), h2.keeps hk (fun k e => ?_), fun x hx => ⟨(h3 x hx).1, (h3 x hx).2.keeps hk (hn _ ?_)⟩⟩
  · obtain ⟨_, _, _, _, _, hf⟩ := h2.form
    obtain ⟨hb, cur, hc⟩ := hf k e
    exact hn k ⟨hb, cur, _, _, hc, .inr (.inl rfl)⟩
  · obtain ⟨cur, hc, _⟩ := (h3 x hx).2
    exact ⟨(h3 x hx).1, cur, _, _, hc, .inr (.inr rfl)⟩
theorem RS.below {w w' : World} {base v : Nat} {vr vd vp : Value} {ps : List (Int × Nat)} {L S X : Nat} (h : RS w base v vr vd vp ps L S X) (hb : Below w.heap.size w w') : RS w' base v vr vd vp ps L S X := h.keeps (Keeps.of_below (S := fun _ => False) hb) (fun _ _ h => h)
theorem RS.write {w : World} {base v : Nat} {vr vd vp : Value} {ps : List (Int × Nat)} {L S X : Nat} (h : RS w base v vr vd vp ps L S X) {g n : Nat} (hg : U8 w g n) (o z : Nat) (hz : z < 256) : RS (w.setCell ⟨g, o, none⟩ (.int .u8 (z : Int))) base v vr vd vp ps L S X := by
  obtain ⟨h0, h1, h2, h3⟩ := h
  obtain ⟨cur, hc, _⟩ := hg
  have hk := Keeps.setCell w g o (.int .u8 (z : Int))
  refine ⟨h0, h1.keeps hk (fun e => ?_), h2.keeps hk (fun k e e' => ?_), fun x hx => ⟨(h3 x hx).1, (h3 x hx).2.set g o z hz⟩⟩
  · have e : v = g := e
    have h1' : w.heap[v]? = _ := h1
    rw [e, hc] at h1'
    cases h1'
  · have e' : k = g := e'
    obtain ⟨_, _, _, _, _, hf⟩ := h2.form
    obtain ⟨_, cur', hc'⟩ := hf k e
    rw [e', hc] at hc'
    cases hc'
/-- the numbers of its pages: none twice, none beyond what there can be -/
def Pn (ps : List (Int × Nat)) : Prop := (ps.map Prod.fst).Nodup ∧ ∀ x ∈ ps, 0 ≤ x.1 ∧ x.1 ≤ 2097152
theorem pigeon : ∀ (n : Nat) (l : List Int), l.Nodup → (∀ x ∈ l, 0 ≤ x ∧ x < (n : Int)) → l.length ≤ n
  | 0, l, _, h => by
    cases l with
    | nil => simp
    | cons x l => have := h x (by simp); omega
  | n + 1, l, hn, h => by
    have h1 := pigeon n (l.erase (n : Int)) (hn.erase _) (fun x hx => by
      have h2 := (hn.mem_erase_iff).1 hx
      have h3 := h x h2.2
      have h4 : x ≠ (n : Int) := h2.1
      omega)
    by_cases hm : (n : Int) ∈ l
    · rw [List.length_erase_of_mem hm] at h1; omega
    · rw [List.erase_of_not_mem hm] at h1; omega
theorem Pn.len {ps : List (Int × Nat)} (h : Pn ps) : ps.length ≤ 2097153 := by
  have := pigeon 2097153 (ps.map Prod.fst) h.1 (fun x hx => by
    obtain ⟨y, hy, rfl⟩ := List.mem_map.1 hx
    have := h.2 y hy
    omega)
  simpa using this
theorem Pn.nil : Pn [] := ⟨by simp, by simp⟩
theorem Pn.add {ps : List (Int × Nat)} (h : Pn ps) {k : Int} (g : Nat) (hk : ∀ x ∈ ps, x.1 ≠ k) (h0 : 0 ≤ k ∧ k ≤ 2097152) : Pn (ps ++ [(k, g)]) := by
  refine ⟨?_, fun x hx => ?_⟩
  · rw [List.map_append, List.nodup_append]
    refine ⟨h.1, by simp, fun a ha b hb e => ?_⟩
    obtain ⟨x, hx, rfl⟩ := List.mem_map.1 ha
    simp only [List.map_cons, List.map_nil, List.mem_singleton] at hb
    exact hk x hx (e.trans hb)
  · rcases List.mem_append.1 hx with hx | hx
    · exact h.2 x hx
    · rw [List.mem_singleton.1 hx]; exact h0
set_option maxHeartbeats 2000000 in
theorem rfind_any {w : World} {base v : Nat} {vr vd vp : Value} {ps : List (Int × Nat)} {L S X : Nat} {k : Int} (h : RS w base v vr vd vp ps L S X) (hl : ps.length ≤ 1099511627776) : Calls Tryz.prog 60 #[.pointer (some ⟨v, 0, none⟩), .int .u64 k] w fun e w' => ∃ j : Int, e = .returned (.int .i64 j) ∧ Hid ((j = -1 ∧ ∀ x ∈ ps, x.1 ≠ k) ∨ ∃ i : Nat, j = (i : Int) ∧ i < ps.length) ∧ w = w' := by
  obtain ⟨h0, h1, h2, h3⟩ := h
  obtain ⟨_, _, c2, _, _, _⟩ := h1.cells
  obtain ⟨a, c, rfl, hc1, hc2, _⟩ := h2.form
  have HC := Lib.hid (fun j hj => h2.cell j hj)
  unfold maxLen at hc2
  obtain ⟨N, hN⟩ : ∃ N, N = ps.length := ⟨_, rfl⟩
  rw [← hN] at c2 hc1 hl
  have HN : Hid (N = ps.length) := hN
  clear h0 h1 h2 h3 hN
  go_enter Tryz.func60, Tryz.ntmps60
  go_wp2_with fail
  go_loop [5] (fun iv => ∃ q : Nat, q ≤ N ∧ iv = .int .i64 (q : Int) ∧ Hid (∀ x ∈ ps.take q, x.1 ≠ k)) (fun iv => N - (intOf iv).toNat)
  case atStart => exact ⟨0, Nat.zero_le _, rfl, by simp [Hid]⟩
  case round =>
    obtain ⟨q, hq, rfl, HQ⟩ := hrel
    by_cases hlt : q < N
    · obtain ⟨g, rfl, d0, d1⟩ := HC.out q (by rw [← HN.out]; exact hlt)
      have HT : Hid (ps[q].1 ≠ k → ∀ x ∈ ps.take (q + 1), x.1 ≠ k) := fun hne x hx => by
        rw [List.take_add_one, List.getElem?_eq_getElem (by rw [← HN.out]; exact hlt)] at hx
        rcases List.mem_append.1 hx with hx | hx
        · exact HQ.out x hx
        · rw [List.mem_singleton.1 hx]; exact hne
      generalize ps[q].1 = x at *
      have qi : (q : Int) < (N : Int) := by omega
      by_cases e : x = k
      · subst e
        go_wp2_with fail
        go_ret
        exact ⟨q, rfl, .inr ⟨q, rfl, by rw [← HN.out]; exact hlt⟩, rfl⟩
      · have he : (x == k) = false := by simpa using e
        go_wp2_with fail
        go_round
        case rel => exact ⟨q + 1, by omega, by go_num, HT.out e⟩
        case measure => simp [intOf]; omega
    · go_wp2_with fail
      go_ret
      exact ⟨-1, rfl, .inl ⟨rfl, by have h := HQ.out; rw [show q = ps.length by rw [← HN.out]; omega, List.take_length] at h; first | exact h | exact fun a b hab => h (a, b) hab⟩, rfl⟩
end Go.Proofs.YtmaahompmgmkfaaGreat
/- The document's own machine with pages: its lay. Own work. -/
namespace Go.Proofs.YtmaahompmgmkfaaGreat
open Go.RowKit Go.Maps Go.Proofs.YtmaahompmgmkfaaGreat.Sp Wk
def zc : Array Value := madeCells #[.int .u8 0] 4096
theorem zc_get (i : Nat) (h : i < 4096) : zc[i]? = some (.int .u8 ((0 : Nat) : Int)) := by
  unfold zc madeCells
  rw [Array.getElem?_map, Array.getElem?_eq_getElem (by simpa using h)]
  simp [Nat.mod_one]
theorem U8.zero (w : World) (t : Array Value) (ty : TypeId) : U8 ((w.alloc (.cells zc 5)).alloc (.cells t ty)).drew w.heap.size 4096 := by
  refine ⟨zc, ?_, fun i hi => ⟨0, by omega, zc_get i hi⟩⟩
  show ((w.heap.push _).push _)[w.heap.size]? = _
  rw [Array.getElem?_push, if_neg (by simp), Array.getElem?_push_size]
theorem info_u8 : (Tryz.prog.info? 5).map (fun i => (i.zero, i.size, i.bytes)) = some (some (.int .u8 0), 1, 1) := by kernel_rfl
theorem make_page (W : World) : (Instr.makeSlice 41 (.int .i64 4096) (.int .i64 4096)).run Tryz.prog W = .ok (.slice (some ⟨W.heap.size, 0, none⟩) 4096 4096) (W.alloc (.cells zc 5)) := by
  obtain ⟨i, hi, hz0, hz1, hz2⟩ := info_parts info_u8
  have h := run_make (P := Tryz.prog) W 41 5 i _ Tryz.underlying41 hi hz0 .i64 .i64 4096 4096 (by omega) (by omega) (by rw [hz2]; decide) (by omega)
  rw [h, hz1]
  rfl
/-- the world ahead of the append -/
abbrev W2 (w : World) (pg : Int) : World := ((w.alloc (.cells zc 5)).alloc (.cells #[.int .u64 pg, .slice (some ⟨w.heap.size, 0, none⟩) 4096 4096] 120)).drew
theorem W2.keeps (w : World) (pg : Int) : Keeps (fun _ => False) w (W2 w pg) := Keeps.drew (Keeps.trans (Keeps.alloc (S := fun _ => False) w _) (Keeps.alloc (S := fun _ => False) _ _) (fun _ _ e => e))
theorem W2.cells (w : World) (pg : Int) : (W2 w pg).cell? ⟨w.heap.size + 1, 0, none⟩ = some (.int .u64 pg) ∧ (W2 w pg).cell? ⟨w.heap.size + 1, 1, none⟩ = some (.slice (some ⟨w.heap.size, 0, none⟩) 4096 4096) := by
  have h : (W2 w pg).heap[w.heap.size + 1]? = some (.cells #[.int .u64 pg, .slice (some ⟨w.heap.size, 0, none⟩) 4096 4096] 120 (0, 0)) := by
    show ((w.heap.push _).push _)[w.heap.size + 1]? = _
    rw [Array.getElem?_push, if_pos (by rw [Array.size_push])]
  refine ⟨?_, ?_⟩ <;> rw [cell_of_row _ _ _ _ _ _ h] <;> rfl
theorem RS.app {w w2 : World} {base v : Nat} {vr vd vp v2 : Value} {ps : List (Int × Nat)} {L S X : Nat} (h : RS w base v vr vd vp ps L S X) (hb : base ≤ w.heap.size) (pg : Int) (ho : OwnP w2 base v2 (ps ++ [(pg, w.heap.size)])) (hg : (W2 w pg).grownBy w2 vp.ownBlock) :
    RS (w2.setCell ⟨v, 2, none⟩ v2) base v vr vd v2 (ps ++ [(pg, w.heap.size)]) L S X ∧ Kv base w (w2.setCell ⟨v, 2, none⟩ v2) ∧ (∀ g n, U8 w g n → U8 (w2.setCell ⟨v, 2, none⟩ v2) g n) ∧ w2.cell? ⟨v, 2, none⟩ = some vp ∧ w2.frozen? ⟨v, 2, none⟩ = false ∧ base ≤ (w2.setCell ⟨v, 2, none⟩ v2).heap.size := by
  obtain ⟨h0, h1, h2, h3⟩ := h
  have hvb : ∀ k, vp.ownBlock = some k → base ≤ k ∧ ∃ cur, w.heap[k]? = some (.cells cur 120 (0, 0)) := by
    obtain ⟨_, _, _, _, _, hf⟩ := h2.form
    exact hf
  have kk : Keeps (fun j => vp.ownBlock = some j) w w2 := ((W2.keeps w pg).mono (S' := fun j => vp.ownBlock = some j) fun _ _ e => e.elim).trans (Keeps.of_grown hg) fun _ _ e => e
  have b1 : RBox w2 v vr vd vp L S X := h1.keeps kk (fun e => by
    obtain ⟨_, cur, hc⟩ := hvb v e
    rw [show w.heap[v]? = _ from h1] at hc
    cases hc)
  have hk := Keeps.setCell w2 v 2 v2
  have u1 : ∀ g n, U8 w2 g n → U8 (w2.setCell ⟨v, 2, none⟩ v2) g n := fun g n hu => hu.keeps hk (fun e => by
    have e : g = v := e
    obtain ⟨cur, hc, _⟩ := hu
    rw [e, show w2.heap[v]? = _ from b1] at hc
    cases hc)
  have u0 : ∀ g n, U8 w g n → U8 (w2.setCell ⟨v, 2, none⟩ v2) g n := fun g n hu => u1 g n (hu.keeps kk (fun e => by
    obtain ⟨_, cur, hc⟩ := hvb g e
    obtain ⟨cur', hc', _⟩ := hu
    rw [hc] at hc'
    cases hc'))
  refine ⟨⟨h0, ?_, ho.keeps hk (fun k e e' => ?_), fun x hx => ?_⟩, ?_, u0, ?_, b1.thawed 2, Nat.le_trans hb (Nat.le_trans kk.size hk.size)⟩
  · have b1' : w2.heap[v]? = _ := b1
    simp [RBox, World.setCell, Array.getElem?_modify, b1']
  · have e' : k = v := e'
    obtain ⟨_, _, _, _, _, hf⟩ := ho.form
    obtain ⟨_, cur, hc⟩ := hf k e
    rw [e', show w2.heap[v]? = _ from b1] at hc
    cases hc
  · rcases List.mem_append.1 hx with hx | hx
    · exact ⟨(h3 x hx).1, u0 _ _ (h3 x hx).2⟩
    · obtain rfl := List.mem_singleton.1 hx
      refine ⟨hb, u1 _ _ ((U8.zero w _ _).keeps (Keeps.of_grown hg) (fun e => ?_))⟩
      obtain ⟨_, cur, hc⟩ := hvb _ e
      have := (Array.getElem?_eq_some_iff.1 hc).1
      omega
  · refine Kv.of ((kk.mono (S' := fun j => vp.ownBlock = some j ∨ j = v) fun _ _ e => .inl e).trans hk fun _ _ e => .inr e) (fun k hkl e => ?_)
    rcases e with e | e
    · obtain ⟨hbk, cur, hc⟩ := hvb k e
      exact ⟨hbk, cur, _, _, hc, .inr (.inl rfl)⟩
    · subst e
      exact ⟨h0, _, _, _, h1, .inl rfl⟩
  · exact b1.cells.2.2.1
/-- what lay keeps -/
def LayI (w0 w : World) (base v : Nat) (vr vd : Value) (L S X gb n : Nat) (vp : Value) (ps : List (Int × Nat)) : Prop := RS w base v vr vd vp ps L S X ∧ U8 w gb n ∧ Kv base w0 w ∧ Pn ps ∧ base ≤ w.heap.size
theorem LayI.write {w0 w : World} {base v : Nat} {vr vd vp : Value} {L S X gb n : Nat} {ps : List (Int × Nat)} (h : LayI w0 w base v vr vd L S X gb n vp ps) {x : Nat} (hx : U8 w x 4096) (hb : base ≤ x) (t z : Nat) (hz : z < 256) : LayI w0 (w.setCell ⟨x, t, none⟩ (.int .u8 (z : Int))) base v vr vd L S X gb n vp ps := by
  refine ⟨h.1.write hx t z hz, h.2.1.set x t z hz, h.2.2.1.trans (Kv.of (Keeps.setCell w x t _) (fun k _ e => ?_)), h.2.2.2.1, Nat.le_trans h.2.2.2.2 (Keeps.setCell w x t (.int .u8 (z : Int))).size⟩
  have e : k = x := e
  subst e
  obtain ⟨cur, hc, _⟩ := hx
  exact ⟨hb, cur, _, _, hc, .inr (.inr rfl)⟩
set_option maxRecDepth 100000 in
set_option maxHeartbeats 2000000 in
theorem rlay_any {w : World} {base v : Nat} {vr vd vp : Value} {ps : List (Int × Nat)} {L S X a n gb cb : Nat} (h : RS w base v vr vd vp ps L S X) (hb : base ≤ w.heap.size) (hB : U8 w gb n) (hn : n ≤ 8) (hcb : n ≤ cb) (ha : a + n ≤ 4294967400) (hl : Pn ps) :
    Calls Tryz.prog 38 #[.pointer (some ⟨v, 0, none⟩), .int .u64 (a : Int), .slice (some ⟨gb, 0, none⟩) n cb, .int .i64 (n : Int), .int .u8 0] w fun e w' => e = .returned (.tuple #[]) ∧ ∃ vp' ps', RS w' base v vr vd vp' ps' L S X ∧ Pn ps' ∧ Kv base w w' := by
  have HI0 : Hid (∃ vp' ps', LayI w w base v vr vd L S X gb n vp' ps') := ⟨vp, ps, h, hB, Kv.refl _ _, hl, hb⟩
  clear h hB hb hl
  have hmk : ∀ W : World, (Instr.makeSlice 41 (.int .i64 4096) (.int .i64 4096)).run Tryz.prog W = .ok (.slice (some ⟨W.heap.size, 0, none⟩) 4096 4096) (W.alloc (.cells zc 5)) := make_page
  go_enter Tryz.func38, Tryz.ntmps38
  go_wp2_with fail
  go_loopw [10] (fun iv wr => ∃ i : Nat, i ≤ n ∧ iv = .int .i64 (i : Int) ∧ Hid (∃ vp' ps', LayI w wr base v vr vd L S X gb n vp' ps')) (fun iv _ => n - (intOf iv).toNat)
  case atStart => exact ⟨0, Nat.zero_le _, rfl, HI0⟩
  case round =>
    obtain ⟨i, hi, rfl, HI⟩ := hrel
    by_cases hlt : i < n
    · obtain ⟨vp1, ps1, HI1⟩ := HI.out
      have HL := Lib.hid HI1
      clear HI1 HI HI0
      have qi : (i : Int) < (n : Int) := by omega
      have hai : (a : Int) + (i : Int) ≤ 18446744073709551615 := by omega
      obtain ⟨fr, hfr, hfr2⟩ : ∃ fr : Nat, ((a : Int) + (i : Int)) % 4096 = (fr : Int) ∧ fr < 4096 := ⟨(a + i) % 4096, by omega, by omega⟩
      obtain ⟨pg, hpg⟩ : ∃ pg : Nat, ((a : Int) + (i : Int)) / 4096 = (pg : Int) := ⟨(a + i) / 4096, by omega⟩
      have hw1 : IntKind.u64.wrap ((a : Int) + (i : Int)) = (a : Int) + (i : Int) := by rw [IntKind.wrap_u64]; omega
      have HF : Hid (Calls Tryz.prog 60 #[.pointer (some ⟨v, 0, none⟩), .int .u64 (pg : Int)] wr fun e w' => ∃ j : Int, e = .returned (.int .i64 j) ∧ Hid ((j = -1 ∧ ∀ x ∈ ps1, x.1 ≠ (pg : Int)) ∨ ∃ i : Nat, j = (i : Int) ∧ i < ps1.length) ∧ wr = w') := rfind_any HL.out.1 (by have := HL.out.2.2.2.1.len; omega)
      obtain ⟨k, hk1, hk2, hk3, hkk⟩ : ∃ k : Nat, 1 ≤ k ∧ k ≤ n - i ∧ k + fr ≤ 4096 ∧ Hid ((decide ((k : Int) < 4096 - (fr : Int)) = true ∧ (n : Int) - (i : Int) = (k : Int)) ∨ (decide ((n : Int) - (i : Int) < (k : Int)) = false ∧ (4096 : Int) - (fr : Int) = (k : Int))) := by
        by_cases hc : n - i < 4096 - fr
        · exact ⟨n - i, by omega, by omega, by omega, .inl ⟨by simp; omega, by omega⟩⟩
        · exact ⟨4096 - fr, by omega, by omega, by omega, .inr ⟨by simp; omega, by omega⟩⟩
      go_upto_if 31 with fail
      go_cut [12] (fun s wx => s = .int .i64 (k : Int) ∧ wx = wr)
      case first =>
        rcases hkk.out with ⟨hci, hk⟩ | ⟨hci, hk⟩
        · have hcp : (n : Int) - (i : Int) < 4096 - (fr : Int) := by rw [hk]; exact of_decide_eq_true hci
          clear hci
          rw [hk] at hcp
          go_wp2_with fail
          go_meet
          exact ⟨rfl, rfl⟩
        · have hcp : ¬ (n : Int) - (i : Int) < (k : Int) := of_decide_eq_false hci
          clear hci
          go_wp2_with fail
          go_meet
          exact ⟨rfl, rfl⟩
      case rest =>
        obtain ⟨rfl, rfl⟩ := hcut
        clear hkk
        go_wp2_with fail
        refine HF.out.mono ?_
        rintro e w1 ⟨j, rfl, hj, rfl⟩
        clear HF
        go_upto_region 7 with fail
        go_cut [51] (fun s wx => s = .bool (decide (j < 0)) ∧ wx = wc)
        case first =>
          rcases hj.out with ⟨rfl, hjx⟩ | ⟨j0, rfl, hj0⟩
          · go_wp2_with fail
            go_meet
            exact ⟨rfl, rfl⟩
          · have hjn : decide ((j0 : Int) < 0) = false := by simp
            go_wp2_with fail
            go_meet
            exact ⟨by go_num, rfl⟩
        case rest =>
          obtain ⟨rfl, hwc⟩ := hcut
          subst hwc
          go_upto_if 51 with fail
          go_cut [13] (fun s wx => ∃ (jj : Nat) (vp2 : Value) (ps2 : List (Int × Nat)), s = .int .i64 (jj : Int) ∧ Hid (jj < ps2.length) ∧ Hid (LayI w wx base v vr vd L S X gb n vp2 ps2))
          case first =>
            rcases hj.out with ⟨rfl, hjx⟩ | ⟨j0, rfl, hj0⟩
            · clear hj
              have HJX := Lib.hid hjx
              clear hjx
              obtain ⟨c0, c1, c2, _⟩ := HL.out.1.2.1.cells
              have hvl := HL.out.1.2.1.lt
              have hv1 : v ≠ wc.heap.size := by omega
              have hv2 : v ≠ wc.heap.size + 1 := by omega
              obtain ⟨a1, cc, hvp, hc1, hc2, _⟩ := HL.out.1.2.2.1.form
              unfold maxLen at hc2
              obtain ⟨n1, hn1⟩ : ∃ n1, n1 = ps1.length := ⟨_, rfl⟩
              have HN1 : Hid (n1 = ps1.length) := hn1
              rw [← hn1] at hvp hc1
              have hn1l : n1 ≤ 2097153 := by rw [HN1.out]; exact HL.out.2.2.2.1.len
              subst hvp
              clear hn1
              have HO : Hid (OwnP (W2 wc (pg : Int)) base (.slice a1 n1 cc) ps1) := HL.out.1.2.2.1.keeps (W2.keeps wc (pg : Int)) (fun _ _ e => e)
              have HC : Hid ((W2 wc (pg : Int)).cell? ⟨wc.heap.size + 1, 0, none⟩ = some (.int .u64 (pg : Int)) ∧ (W2 wc (pg : Int)).cell? ⟨wc.heap.size + 1, 1, none⟩ = some (.slice (some ⟨wc.heap.size, 0, none⟩) 4096 4096)) := W2.cells wc (pg : Int)
              have HA : Hid (∀ v2 w2, OwnP w2 base v2 (ps1 ++ [((pg : Int), wc.heap.size)]) → (W2 wc (pg : Int)).grownBy w2 (Value.slice a1 n1 cc).ownBlock → LayI w (w2.setCell ⟨v, 2, none⟩ v2) base v vr vd L S X gb n v2 (ps1 ++ [((pg : Int), wc.heap.size)]) ∧ w2.cell? ⟨v, 2, none⟩ = some (.slice a1 n1 cc) ∧ w2.frozen? ⟨v, 2, none⟩ = false) := fun v2 w2 ho hg => by
                obtain ⟨r1, r2, r3, r4, r5, r6⟩ := HL.out.1.app HL.out.2.2.2.2 (pg : Int) ho hg
                exact ⟨⟨r1, r3 _ _ HL.out.2.1, HL.out.2.2.1.trans r2, HL.out.2.2.2.1.add _ HJX.out ⟨by omega, by omega⟩, r6⟩, r4, r5⟩
              have HBs : Hid (base ≤ (W2 wc (pg : Int)).heap.size) := Nat.le_trans HL.out.2.2.2.2 (W2.keeps wc (pg : Int)).size
              have hw0 : IntKind.u64.wrap (i : Int) = (i : Int) := by rw [IntKind.wrap_u64]; omega
              have hw2 : IntKind.u64.wrap (((a : Int) + (i : Int)).tdiv 4096) = (pg : Int) := by rw [Int.tdiv_eq_ediv_of_nonneg (by omega), hpg, IntKind.wrap_u64]; omega
              have HLn : Hid (ps1.length ≤ 1099511627776) := by show _ ≤ _; rw [← HN1.out]; omega
              go_wp2_with fail
              go_region_law (refine step_appP (base := base) (v := .slice a1 n1 cc) (ps := ps1) (x := ((pg : Int), wc.heap.size)) (by kernel_rfl) (.tmp 61) (.tmp 69) (by rfl) (by rfl) (by exact HO.out) (by rfl) (by exact HC.out.1) (by exact HC.out.2) HLn.out (by exact HBs.out) ?_; intro va vn vc w2 ho hg; obtain ⟨hl2, hc2, hf2⟩ := HA.out _ w2 ho hg; have HL2 := Lib.hid hl2; clear hl2 ho hg)
              all_goals
                go_wp2_with fail
                go_meet
                exact ⟨n1, _, _, rfl, by show _ < _; rw [HN1.out, List.length_append]; exact Nat.lt_succ_self _, HL2⟩
            · clear hj
              have HJ : Hid (j0 < ps1.length) := hj0
              clear hj0
              have HL2 : Hid (LayI w wc base v vr vd L S X gb n vp1 ps1) := ⟨HL.out.1, HL.out.2.1, HL.out.2.2.1, HL.out.2.2.2.1, HL.out.2.2.2.2⟩
              go_wp2_with fail
              go_meet
              exact ⟨j0, _, _, rfl, HJ, HL2⟩
          case rest =>
            obtain ⟨jj, vp2, ps2, rfl, HJ, HL2⟩ := hcut
            clear hj HL
            have jj0 : (0 : Int) ≤ (jj : Int) := Int.natCast_nonneg _
            go_wp2_with fail
            go_loopw [14] (fun qv wq => ∃ q : Nat, q ≤ k ∧ qv = .int .i64 (q : Int) ∧ Hid (LayI w wq base v vr vd L S X gb n vp2 ps2)) (fun qv _ => k - (intOf qv).toNat)
            case atStart => exact ⟨0, Nat.zero_le _, rfl, HL2⟩
            case round =>
              obtain ⟨q, hq, rfl, HQ⟩ := hrel
              by_cases hqk : q < k
              · have qki : (q : Int) < (k : Int) := by omega
                obtain ⟨c0, c1, c2, _⟩ := HQ.out.1.2.1.cells
                obtain ⟨a1, cc, hvp, hc1, hc2, _⟩ := HQ.out.1.2.2.1.form
                unfold maxLen at hc2
                obtain ⟨n1, hn1⟩ : ∃ n1, n1 = ps2.length := ⟨_, rfl⟩
                have HN1 : Hid (n1 = ps2.length) := hn1
                rw [← hn1] at hvp hc1
                have hjn : jj < n1 := by rw [HN1.out]; exact HJ.out
                subst hvp
                clear hn1
                obtain ⟨g, rfl, d0, d1⟩ := HQ.out.1.2.2.1.cell jj HJ.out
                obtain ⟨hxb, hxu⟩ := HQ.out.1.2.2.2 _ (List.getElem_mem HJ.out)
                have HXU := Lib.hid hxu
                have HXB := Lib.hid hxb
                generalize (ps2[jj]'HJ.out).2 = x at *
                obtain ⟨s, hs, hs2⟩ : ∃ s : Nat, (i : Int) + (q : Int) = (s : Int) ∧ s < n := ⟨i + q, by omega, by omega⟩
                obtain ⟨t, ht, ht2⟩ : ∃ t : Nat, (fr : Int) + (q : Int) = (t : Int) ∧ t < 4096 := ⟨fr + q, by omega, by omega⟩
                obtain ⟨z, hz, hcz⟩ := HQ.out.2.1.cell s hs2
                obtain ⟨y, hy, hcy⟩ := HXU.out.cell t ht2
                have hfz := HXU.out.thawed t
                clear hxb hxu
                go_wp2_with fail
                refine ⟨⟨q + 1, by omega, by go_num, ?_⟩, by simp [intOf]; omega⟩
                exact HQ.out.write HXU.out HXB.out t z hz
              · go_wp2_with fail
                refine ⟨⟨i + k, by omega, by go_num, ?_⟩, by simp [intOf]; omega⟩
                exact ⟨_, _, HQ.out.1, HQ.out.2.1, HQ.out.2.2.1, HQ.out.2.2.2.1, HQ.out.2.2.2.2⟩
    · obtain rfl : i = n := by omega
      go_wp2_with fail
      go_end0
      obtain ⟨vp1, ps1, h1⟩ := HI.out
      exact ⟨rfl, vp1, ps1, h1.1, h1.2.2.2.1, h1.2.2.1⟩
end Go.Proofs.YtmaahompmgmkfaaGreat
/- The document's own machine with pages: its Store of eight bytes. Own work. -/
namespace Go.Proofs.YtmaahompmgmkfaaGreat
open Go.RowKit Go.Maps Go.Proofs.YtmaahompmgmkfaaGreat.Sp Wk
set_option maxHeartbeats 1000000 in
theorem right_eight (w : World) : Calls Tryz.prog 36 #[.int .i64 8] w fun e w' => e = .returned (.bool true) ∧ w' = w := by
  go_enter Tryz.func36, Tryz.ntmps36
  go_wp2_with fail
  go_ret
  exact ⟨rfl, rfl⟩
theorem RS.box {w w' : World} {base v : Nat} {vr vd vp : Value} {ps : List (Int × Nat)} {L S X L' S' X' : Nat} (h : RS w base v vr vd vp ps L S X) (hk : Keeps (fun j => j = v) w w') (hb : RBox w' v vr vd vp L' S' X') : RS w' base v vr vd vp ps L' S' X' ∧ Kv base w w' := by
  obtain ⟨h0, h1, h2, h3⟩ := h
  refine ⟨⟨h0, hb, h2.keeps hk (fun k e e' => ?_), fun x hx => ⟨(h3 x hx).1, (h3 x hx).2.keeps hk (fun e => ?_)⟩⟩, Kv.of hk (fun k _ e => ?_)⟩
  · have e' : k = v := e'
    obtain ⟨_, _, _, _, _, hf⟩ := h2.form
    obtain ⟨_, cur, hc⟩ := hf k e
    rw [e', show w.heap[v]? = _ from h1] at hc
    cases hc
  · have e : x.2 = v := e
    obtain ⟨cur, hc, _⟩ := (h3 x hx).2
    rw [e, show w.heap[v]? = _ from h1] at hc
    cases hc
  · have e : k = v := e
    subst e
    exact ⟨h0, _, _, _, h1, .inl rfl⟩
theorem Own.u8 {w : World} {base g n cap : Nat} {xs : List Nat} (h : Own w base (.slice (some ⟨g, 0, none⟩) n cap) xs) (hz : ∀ z ∈ xs, z < 256) : U8 w g n := by
  rcases h.2 with ⟨hv, _⟩ | ⟨g', cap', cur, hv, hb, hg, hnc, hcm, hcs, ht⟩
  · cases hv
  · cases hv
    refine ⟨cur, hg, fun i hi => ?_⟩
    refine ⟨xs[i], hz _ (List.getElem_mem hi), ?_⟩
    have h1 := h.cell i hi
    rw [cell_of_row _ _ _ _ _ _ hg] at h1
    rw [h1, List.getD_eq_getElem?_getD, List.getElem?_eq_getElem hi]
    rfl
theorem BoxG.notVB {w : World} {b base : Nat} {x y : Int} (h : BoxG w b x y) : ∀ j, VB base w j → ¬ j = b := by
  rintro j ⟨_, c, t, fr, hc, ht⟩ rfl
  rw [show w.heap[j]? = _ from h] at hc
  cases hc
  rcases ht with ht | ht | ht <;> cases ht
theorem Kv.after {base : Nat} {w W W' : World} {Z : Nat → Prop} (h : Kv base w W) (k : Keeps Z W W') (hz : ∀ j, j < w.heap.size → ¬ Z j) : Kv base w W' := Keeps.trans h k (fun i hi e => absurd e (hz i hi))
/-- what the document's own Store keeps -/
def RSt (w : World) (base v : Nat) (vr vd : Value) (L S X : Nat) (e : Ending) (w' : World) : Prop := (∃ f, e = .returned f) ∧ ∃ vp' ps' S' X', RS w' base v vr vd vp' ps' L S' X' ∧ Pn ps' ∧ S' ≤ S + 1 ∧ X' ≤ X + 1 ∧ Kv base w w'
set_option maxRecDepth 100000 in
set_option maxHeartbeats 2000000 in
theorem rstore_any {w : World} {base v : Nat} {vr vd vp : Value} {ps : List (Int × Nat)} {rs ds : List Sp} {L S X a val : Nat} (h : RS w base v vr vd vp ps L S X) (hb : base ≤ w.heap.size) (hr : U64.SV w vr rs) (hd : U64.SV w vd ds) (hs : Sane (rs ++ ds)) (hll : rs.length + ds.length ≤ 64) (ha : a ≤ 18446744073709551615) (hl : Pn ps) (hX : X ≤ 4611686018427387904) (hS : S ≤ 4611686018427387904) :
    Calls Tryz.prog 21 #[.pointer (some ⟨v, 0, none⟩), .int .u64 (a : Int), .int .i64 8, .int .u64 (val : Int)] w (RSt w base v vr vd L S X) := by
  have HR := Lib.hid h
  have HAc : Hid (∀ W, Below w.heap.size w W → Calls Tryz.prog 37 #[.pointer (some ⟨v, 0, none⟩), .int .u64 (a : Int), .int .i64 ((8 : Nat) : Int)] W (RAsk W v vr vd vp (rs ++ ds) L S X a 8)) := fun W hW => raccess_any (h.2.1.below hW) (hr.below hW (Nat.le_refl _)) (hd.below hW (Nat.le_refl _)) hs hll ha (by omega) hX
  have HS := Lib.hid hs
  have HPn := Lib.hid hl
  have hvl := h.2.1.lt
  generalize rs ++ ds = LL at *
  clear h hr hd hs hll hl
  go_enter Tryz.func21, Tryz.ntmps21
  go_wp2_with fail
  refine (right_eight _).mono ?_
  rintro e w1 ⟨rfl, rfl⟩
  go_wp2_with fail
  refine (HAc.out _ ((Below.refl _ _).alloc (Nat.le_refl _) _)).mono ?_
  rintro e w1 ⟨x, b, hoff, rfl, hbx, hk1⟩
  have HXX : Hid (x = x) := rfl
  have hkw : Keeps (fun j => j = v) w w1 := (Keeps.alloc (S := fun j => j = v) w _).trans hk1 (fun _ _ e => e)
  have HX1 : Hid (BoxG w1 w.heap.size 0 0) := (BoxG.new w 0 0).keeps hk1 (show ¬ w.heap.size = v by omega)
  obtain ⟨r1, k1⟩ := HR.out.box hkw hbx
  have HR1 := Lib.hid r1
  have HK1 := Lib.hid k1
  have hlt1 := HX1.out.lt
  have HOf := Lib.hid hoff
  clear hkw hbx hk1 r1 k1 HAc HR hoff
  obtain ⟨W3, hW3⟩ : ∃ W3, w1.alloc (Obj.cells #[.int .i64 (if b = true then 30 else 0), .int .u64 x] 60) = W3 := ⟨_, rfl⟩
  have HB3 : Hid (Below w1.heap.size w1 W3) := hW3 ▸ (Below.refl _ _).alloc (Nat.le_refl _) _
  have HF3 : Hid (BoxG W3 w1.heap.size (if b = true then 30 else 0) x) := hW3 ▸ BoxG.new w1 _ _
  have HX3 : Hid (BoxG W3 w.heap.size 0 0) := HX1.out.below HB3.out
  have HR3 : Hid (RS W3 base v vr vd vp ps L S (up b X)) := HR1.out.below HB3.out
  have HK3 : Hid (Kv base w W3) := HK1.out.trans (Kv.below HB3.out)
  have hne : w.heap.size ≠ w1.heap.size := by omega
  have hbs : base ≤ W3.heap.size := by have := HB3.out.size; omega
  have hl3 : w1.heap.size < W3.heap.size := HF3.out.lt
  clear HX1 HR1 HK1 HB3
  unfold FaultV
  cases b with
  | true =>
    simp only [if_true] at hW3 HF3
    obtain ⟨x0, x1, f0, f1⟩ := HX3.out.cells
    obtain ⟨y0, y1, _, _⟩ := HF3.out.cells
    go_wp2_with fail
    clear hW3
    obtain ⟨d0, d1, _⟩ := (HX3.out.set 30 x).cells
    refine bodyPost_ret (v := .agg #[.int .i64 30, .int .u64 x]) (by simp [results, Tryz.results21, go_sem, d0, d1]) rfl ?_
    have hk2 := Keeps.two W3 w.heap.size (.int .i64 30) (.int .u64 x)
    exact ⟨⟨_, rfl⟩, vp, ps, S, X + 1, HR3.out.keeps hk2 HX3.out.notVB, HPn.out, by omega, by omega, HK3.out.after hk2 (fun j hj e => by omega)⟩
  | false =>
    obtain ⟨rfl, hon⟩ := HOf.out.2 rfl
    have ha8 : (a : Int) ≤ 4294967296 := on_le HS.out (hon 0 (by omega))
    clear hon
    simp only [if_false, Bool.false_eq_true] at hW3 HF3
    have HW3 := Lib.hid hW3
    have HW4 : Hid (BoxG (w1.alloc (Obj.cells #[.int .i64 0, .int .u64 0] 60)) w1.heap.size 0 0) := BoxG.new w1 0 0
    clear hW3
    go_wp2_with fail
    go_loopw [10, 11] (fun bv iv wr => ∃ i : Nat, i ≤ 8 ∧ iv = .int .i64 (i : Int) ∧ ∃ a1 n1 c1, bv = .slice a1 n1 c1 ∧ Hid (∃ xs : List Nat, xs.length = i ∧ (∀ z ∈ xs, z < 256) ∧ Own wr W3.heap.size (.slice a1 n1 c1) xs) ∧ Hid (Below W3.heap.size W3 wr)) (fun _ iv _ => 8 - (intOf iv).toNat)
    case atStart => exact ⟨0, by omega, rfl, none, 0, 0, rfl, ⟨[], rfl, by simp, own_nil _ _⟩, HW3.out ▸ Below.refl _ _⟩
    case round =>
      obtain ⟨i, hi, rfl, a1, n1, c1, rfl, HO, HB⟩ := hrel
      by_cases hlt : i < 8
      · obtain ⟨xs, hxl, hxs, hown⟩ := HO.out
        have HO1 := Lib.hid hown
        have HXs := Lib.hid hxs
        have HXl := Lib.hid hxl
        clear HO hown hxs hxl
        have qi : (i : Int) < 8 := by omega
        obtain ⟨r, hrr⟩ : ∃ r : Nat, (val : Int) / 2 ^ (8 * i) = (r : Int) := ⟨val / 2 ^ (8 * i), by rw [Int.natCast_ediv, Int.natCast_pow]; rfl⟩
        have hba : Below W3.heap.size W3 (wr.alloc (Obj.cells #[.int .u8 ((r : Int) % 256)] 5)) := HB.out.alloc HB.out.size _
        have F1 : Hid (Own (wr.alloc (Obj.cells #[.int .u8 ((r : Int) % 256)] 5)) W3.heap.size (.slice a1 n1 c1) xs) := HO1.out.below ((Below.refl _ _).alloc (Nat.le_refl _) _)
        have F2 : Hid (Sl (wr.alloc (Obj.cells #[.int .u8 ((r : Int) % 256)] 5)) (.slice (some ⟨wr.heap.size, 0, none⟩) 1 1) [r % 256]) := sl_one wr r
        have F6 : Hid (xs.length + [r % 256].length ≤ 1099511627776) := by show _ ≤ _; rw [HXl.out]; simp; omega
        have F7 : Hid (W3.heap.size ≤ (wr.alloc (Obj.cells #[.int .u8 ((r : Int) % 256)] 5)).heap.size) := hba.size
        have HBa := Lib.hid hba
        clear hba
        go_wp2_with (refine wpList_append_sl (.tmp 30) (.tmp 37) rfl rfl rfl F1.out rfl F2.out F6.out F7.out ?_)
        intro v' w5 ho hg5 ho3
        obtain ⟨a', n', c', rfl⟩ : ∃ a n c, v' = .slice a n c := by
          rcases ho.2 with ⟨rfl, _⟩ | ⟨g, cap, cur, rfl, _⟩
          · exact ⟨_, _, _, rfl⟩
          · exact ⟨_, _, _, rfl⟩
        have HO5 : Hid (∃ xs : List Nat, xs.length = i + 1 ∧ (∀ z ∈ xs, z < 256) ∧ Own w5 W3.heap.size (.slice a' n' c') xs) := ⟨xs ++ [r % 256], by rw [List.length_append, HXl.out]; rfl, fun z hz => by
          rcases List.mem_append.1 hz with hz | hz
          · exact HXs.out z hz
          · rw [List.mem_singleton.1 hz]; omega, ho⟩
        have HB5 : Hid (Below W3.heap.size W3 w5) := HBa.out.grown hg5 F7.out (fun k e => (F1.out.lt k e).1)
        clear ho hg5 ho3
        go_wp2_with fail
        exact ⟨⟨i + 1, by omega, by go_num, a', n', c', rfl, HO5, HB5⟩, by simp [intOf]; omega⟩
      · obtain rfl : i = 8 := by omega
        obtain ⟨xs, hxl, hxs, hown⟩ := HO.out
        obtain ⟨g, cap, hv, hg0, hg1, hg2, hg3⟩ := hown.form (by omega)
        rw [hxl] at hv hg2
        cases hv
        have HU := hown.u8 hxs
        have HRr := HR3.out.below HB.out
        have HLy : Hid (Calls Tryz.prog 38 #[.pointer (some ⟨v, 0, none⟩), .int .u64 (a : Int), .slice (some ⟨g, 0, none⟩) 8 c1, .int .i64 ((8 : Nat) : Int), .int .u8 0] wr fun e w' => e = .returned (.tuple #[]) ∧ ∃ vp' ps', RS w' base v vr vd vp' ps' L S X ∧ Pn ps' ∧ Kv base wr w') := rlay_any HRr (Nat.le_trans hbs HB.out.size) HU (by omega) hg2 (by omega) HPn.out
        have hwb : W3.heap.size ≤ wr.heap.size := HB.out.size
        clear HO hxl hxs hown HU HRr hg0 hg1 hg2 hg3
        go_wp2_with fail
        refine HLy.out.mono ?_
        rintro e w6 ⟨rfl, vp', ps', hr6, hl6, hk6⟩
        have HR6 := Lib.hid hr6
        have HL6 := Lib.hid hl6
        have HK6 := Lib.hid hk6
        have HX6 : Hid (BoxG w6 w.heap.size 0 0) := (HX3.out.below HB.out).keeps hk6 (fun e => (HX3.out.below HB.out).notVB _ e rfl)
        have HF6 : Hid (BoxG w6 w1.heap.size 0 0) := (HF3.out.below HB.out).keeps hk6 (fun e => (HF3.out.below HB.out).notVB _ e rfl)
        clear HLy hr6 hl6 hk6
        obtain ⟨_, _, _, _, c4, _⟩ := HR6.out.2.1.cells
        have f4 := HR6.out.2.1.thawed 4
        obtain ⟨x0, x1, f0, f1⟩ := HX6.out.cells
        obtain ⟨y0, y1, _, _⟩ := HF6.out.cells
        have hv1 : v ≠ w.heap.size := by omega
        have hv2 : v ≠ w1.heap.size := by omega
        go_wp2_with fail
        have hk7 := Keeps.setCell w6 v 4 (.int .i64 ((S : Int) + 1))
        have hx7 : BoxG (w6.setCell ⟨v, 4, none⟩ (.int .i64 ((S : Int) + 1))) w.heap.size 0 0 := HX6.out.keeps hk7 (fun e => hv1 (show w.heap.size = v from e).symm)
        have hb7 : RBox (w6.setCell ⟨v, 4, none⟩ (.int .i64 ((S : Int) + 1))) v vr vd vp' L (S + 1) X := by
          have h1 : w6.heap[v]? = _ := HR6.out.2.1
          simp [RBox, World.setCell, Array.getElem?_modify, h1]
        obtain ⟨r7, k7⟩ := HR6.out.box hk7 hb7
        generalize w6.setCell ⟨v, 4, none⟩ (.int .i64 ((S : Int) + 1)) = W7 at *
        obtain ⟨d0, d1, _⟩ := (hx7.set 0 0).cells
        refine bodyPost_ret (v := .agg #[.int .i64 0, .int .u64 0]) (by simp [results, Tryz.results21, go_sem, d0, d1]) rfl ?_
        have hk8 := Keeps.two W7 w.heap.size (.int .i64 0) (.int .u64 0)
        exact ⟨⟨_, rfl⟩, vp', ps', S + 1, X, r7.keeps hk8 hx7.notVB, HL6.out, by omega, by omega, (((HK3.out.trans (Kv.below HB.out)).trans HK6.out).trans k7).after hk8 (fun j hj e => by omega)⟩
end Go.Proofs.YtmaahompmgmkfaaGreat
/- What a byte that is stored changes in the whole. Own work. -/
namespace Go.Proofs.YtmaahompmgmkfaaGreat
open Go.RowKit Go.Maps Go.Proofs.YtmaahompmgmkfaaGreat.Sp Wk
theorem bytes_out {M : Nat → Nat} {p y a n : Nat} (h : ¬ (a ≤ p ∧ p < a + n)) : bytesAt (putAt M p [y]) a n = bytesAt M a n := by
  refine bytesAt_ext (by rw [bytesAt_len]) (fun i hi => ?_)
  rw [bytesAt_get _ _ _ _ hi, putAt_out _ _ _ _ (by simp; omega)]
theorem bytes_in {M : Nat → Nat} {p y a n : Nat} (h1 : a ≤ p) (_h2 : p < a + n) : (bytesAt M a n).set (p - a) y = bytesAt (putAt M p [y]) a n := by
  refine bytesAt_ext (by rw [List.length_set, bytesAt_len]) (fun i hi => ?_)
  by_cases e : p - a = i
  · subst e
    rw [List.getElem?_set_self (by rw [bytesAt_len]; exact hi), show a + (p - a) = p + 0 by omega, putAt_in _ _ _ _ (by simp)]
    rfl
  · rw [List.getElem?_set_ne e, bytesAt_get _ _ _ _ hi, putAt_out _ _ _ _ (by simp; omega)]
def begN (L : List Sp) : Nat := (L.map fun x => x.2.toNat).sum
theorem wholeL_length (M : Nat → Nat) : ∀ L : List Sp, (wholeL M L).length = begN L
  | [] => rfl
  | x :: L => by
    have ih := wholeL_length M L
    show (bytesAt M x.1.toNat x.2.toNat ++ wholeL M L).length = _
    rw [List.length_append, bytesAt_len, ih]
    simp [begN]
theorem begN_append (A B : List Sp) : begN (A ++ B) = begN A + begN B := by simp [begN, List.sum_append]
theorem wholeL_append (M : Nat → Nat) (A B : List Sp) : wholeL M (A ++ B) = wholeL M A ++ wholeL M B := by simp [wholeL]
noncomputable def mixL (M : Nat → Nat) (p y : Nat) (LL : List Sp) (j : Nat) : List Nat := wholeL (putAt M p [y]) (LL.take j) ++ wholeL M (LL.drop j)
theorem mix_zero (M : Nat → Nat) (p y : Nat) (LL : List Sp) : mixL M p y LL 0 = wholeL M LL := by simp [mixL, wholeL]
theorem mix_end (M : Nat → Nat) (p y : Nat) (LL : List Sp) : mixL M p y LL LL.length = wholeL (putAt M p [y]) LL := by simp [mixL, wholeL]
theorem mix_length (M : Nat → Nat) (p y : Nat) (LL : List Sp) (j : Nat) : (mixL M p y LL j).length = begN LL := by
  rw [mixL, List.length_append, wholeL_length, wholeL_length, ← begN_append, List.take_append_drop]
theorem mix_step (M : Nat → Nat) (p y : Nat) (LL : List Sp) (j : Nat) (hj : j < LL.length) : mixL M p y LL j = wholeL (putAt M p [y]) (LL.take j) ++ (bytesAt M LL[j].1.toNat LL[j].2.toNat ++ wholeL M (LL.drop (j + 1))) ∧ mixL M p y LL (j + 1) = wholeL (putAt M p [y]) (LL.take j) ++ (bytesAt (putAt M p [y]) LL[j].1.toNat LL[j].2.toNat ++ wholeL M (LL.drop (j + 1))) := by
  constructor
  · rw [mixL, List.drop_eq_getElem_cons hj]
    rfl
  · rw [mixL, List.take_add_one, List.getElem?_eq_getElem hj, wholeL_append]
    simp [wholeL]
theorem mix_no {M : Nat → Nat} {p y : Nat} {LL : List Sp} {j : Nat} (hj : j < LL.length) (h : ¬ (LL[j].1.toNat ≤ p ∧ p < LL[j].1.toNat + LL[j].2.toNat)) : mixL M p y LL (j + 1) = mixL M p y LL j := by
  obtain ⟨h1, h2⟩ := mix_step M p y LL j hj
  rw [h1, h2, bytes_out h]
theorem mix_yes {M : Nat → Nat} {p y : Nat} {LL : List Sp} {j : Nat} (hj : j < LL.length) (h1 : LL[j].1.toNat ≤ p) (h2 : p < LL[j].1.toNat + LL[j].2.toNat) : (mixL M p y LL j).set (begN (LL.take j) + (p - LL[j].1.toNat)) y = mixL M p y LL (j + 1) := by
  obtain ⟨e1, e2⟩ := mix_step M p y LL j hj
  rw [e1, e2, ← bytes_in h1 h2, List.set_append_right _ _ (by rw [wholeL_length]; omega), wholeL_length, List.set_append_left _ _ (by rw [bytesAt_len]; omega)]
  rw [show begN (LL.take j) + (p - LL[j].1.toNat) - begN (LL.take j) = p - LL[j].1.toNat by omega]
theorem beg_step {LL : List Sp} {j : Nat} (hj : j < LL.length) : begN (LL.take (j + 1)) = begN (LL.take j) + LL[j].2.toNat := by
  rw [List.take_add_one, List.getElem?_eq_getElem hj, begN_append]
  rfl
theorem beg_le {LL : List Sp} {j : Nat} : begN (LL.take j) ≤ begN LL := by
  have h := congrArg begN (List.take_append_drop j LL)
  rw [begN_append] at h
  omega
theorem le_getD : ∀ (m n i : Nat), i < m → (Pl.le m n).getD i 0 = n / 256 ^ i % 256
  | 0, _, _, h => by omega
  | m + 1, n, 0, _ => by show n % 256 = _; simp
  | m + 1, n, i + 1, h => by
    have ih := le_getD m (n / 256) i (by omega)
    show (Pl.le m (n / 256)).getD i 0 = _
    rw [ih, Nat.div_div_eq_div_mul, Nat.pow_succ, Nat.mul_comm]
theorem le_shift (n i : Nat) (h : i < 8) : (Pl.le 8 n).getD i 0 = n / 2 ^ (8 * i) % 256 := by rw [le_getD 8 n i h, Nat.pow_mul]
end Go.Proofs.YtmaahompmgmkfaaGreat
/- The two machines of the law and what is laid into them. Own work. -/
namespace Go.Proofs.YtmaahompmgmkfaaGreat
open Go.RowKit Go.Maps Go.Proofs.YtmaahompmgmkfaaGreat.Sp Wk
/-- a machine and the document's own beside it -/
def GI (w0 wr : World) (base m B : Nat) (V : Value × Value × Value) (v : Nat) (vr vd : Value) (rs ds : List Sp) (n k : Nat) : Prop :=
  ∃ T M, Mx wr m B V T M rs ds n ∧ (∀ j, Mine m B V T j → w0.heap.size ≤ j) ∧ (∀ j, Mine m B V (fun _ => none) j → j < base) ∧ w0.heap.size ≤ base ∧ base ≤ wr.heap.size ∧ Below w0.heap.size w0 wr ∧ ∃ vp ps L S X, RS wr base v vr vd vp ps L S X ∧ S ≤ k ∧ X ≤ k ∧ Pn ps
theorem mine_notVB {w : World} {base m B : Nat} {V : Value × Value × Value} {T : Nat → Option Nat} {M : Nat → Nat} {rs ds : List Sp} {n : Nat} (h : Mx w m B V T M rs ds n) (hm : ∀ j, Mine m B V (fun _ => none) j → j < base) : ∀ j, Mine m B V T j → ¬ VB base w j := by
  rintro j hj ⟨hb, c, t, fr, hc, ht⟩
  rcases hj with rfl | (rfl | ⟨k, hk⟩) | hj
  · have := hm j (.inl rfl); omega
  · have := hm j (.inr (.inl (.inl rfl))); omega
  · obtain ⟨L, S, X, _, _, _, G, _, _, _, _, _, _, _, _, hh, _⟩ := h
    have hp : w.heap[j]? = _ := (hh.2.1 k j hk).1
    rw [hp] at hc
    injection hc with hc
    injection hc with _ hc _
    subst hc
    rcases ht with ht | ht | ht <;> cases ht
  · have := hm j (.inr (.inr hj)); omega
theorem GI.below {w0 wr W : World} {base m B : Nat} {V : Value × Value × Value} {v : Nat} {vr vd : Value} {rs ds : List Sp} {n k : Nat} (h : GI w0 wr base m B V v vr vd rs ds n k) (hb : Below wr.heap.size wr W) : GI w0 W base m B V v vr vd rs ds n k := by
  obtain ⟨T, M, h1, h2, h3, h4, h5, h6, vp, ps, L, S, X, h7, h8⟩ := h
  exact ⟨T, M, h1.below hb, h2, h3, h4, Nat.le_trans h5 hb.size, h6.trans (hb.mono h6.size), vp, ps, L, S, X, h7.below hb, h8⟩
theorem below_keeps {w0 wr w' : World} {Z : Nat → Prop} (h : Below w0.heap.size w0 wr) (hk : Keeps Z wr w') (hz : ∀ j, Z j → w0.heap.size ≤ j) : Below w0.heap.size w0 w' :=
  h.trans ⟨hk.os, hk.tape, hk.output, hk.size, fun j hj => hk.block j (Nat.lt_of_lt_of_le hj h.size) (fun e => by have := hz j e; omega)⟩
theorem g_store1 {w0 wr : World} {base m B : Nat} {V : Value × Value × Value} {v : Nat} {vr vd : Value} {rs ds : List Sp} {n k a val : Nat} (h : GI w0 wr base m B V v vr vd rs ds n k) (ha : a ≤ 18446744073709551615) (hval : val ≤ 18446744073709551615) (hn : n ≤ 4611686018427387904) :
    Calls Tryz.prog 20 #[.pointer (some ⟨m, 0, none⟩), .int .u64 (a : Int), .int .i64 8, .int .u64 (val : Int)] wr fun e w' => (∃ f, e = .returned f) ∧ Hid (GI w0 w' base m B V v vr vd rs ds (n + 1) k) := by
  obtain ⟨T, M, ⟨L, S, X, hL, hS, hX, h1⟩, h2, h3, h4, h5, h6, vp, ps, L', S', X', h7, h8⟩ := h
  refine (store_any (n := 8) h1 ha (.inr (.inr (.inr rfl))) hval (by omega) (by omega)).mono ?_
  rintro e w' ⟨x, b, _, rfl, hk, hb1, hb2⟩
  refine ⟨⟨_, rfl⟩, ?_⟩
  have hz : ∀ j, (j = m ∨ Foot B T j) → w0.heap.size ≤ j := fun j e => h2 j (e.elim .inl (fun e => .inr (.inl e)))
  have hRS : RS w' base v vr vd vp ps L' S' X' := h7.keeps hk (fun j hv e => mine_notVB ⟨L, S, X, hL, hS, hX, h1⟩ h3 j (e.elim .inl (fun e => .inr (.inl e))) hv)
  have hB := below_keeps h6 hk hz
  cases b with
  | true => exact ⟨T, M, ⟨L, S, X + 1, by omega, by omega, by omega, hb1 rfl⟩, h2, h3, h4, Nat.le_trans h5 hk.size, hB, vp, ps, L', S', X', hRS, h8⟩
  | false =>
    obtain ⟨T', hm', hg⟩ := hb2 rfl
    refine ⟨T', _, ⟨L, S + 1, X, by omega, by omega, by omega, hm'⟩, fun j hj => ?_, h3, h4, Nat.le_trans h5 hk.size, hB, vp, ps, L', S', X', hRS, h8⟩
    rcases hj with rfl | (rfl | ⟨i, hi⟩) | hj
    · exact h2 _ (.inl rfl)
    · exact h2 _ (.inr (.inl (.inl rfl)))
    · rcases hg i j hi with hi | hi
      · exact h2 _ (.inr (.inl (.inr ⟨i, hi⟩)))
      · exact Nat.le_trans h6.size hi
    · exact h2 _ (.inr (.inr hj))
theorem g_store2 {w0 wr : World} {base m B : Nat} {V : Value × Value × Value} {v : Nat} {vr vd : Value} {rs ds : List Sp} {n k a val : Nat} (h : GI w0 wr base m B V v vr vd rs ds n k) (hr : U64.SV w0 vr rs) (hd : U64.SV w0 vd ds) (hl : rs.length + ds.length ≤ 64) (ha : a ≤ 18446744073709551615) (hn : k ≤ 4611686018427387904) :
    Calls Tryz.prog 21 #[.pointer (some ⟨v, 0, none⟩), .int .u64 (a : Int), .int .i64 8, .int .u64 (val : Int)] wr fun e w' => (∃ f, e = .returned f) ∧ Hid (GI w0 w' base m B V v vr vd rs ds n (k + 1)) := by
  obtain ⟨T, M, h1, h2, h3, h4, h5, h6, vp, ps, L, S, X, h7, h8, h9, h10⟩ := h
  refine (rstore_any h7 h5 (hr.below h6 (Nat.le_refl _)) (hd.below h6 (Nat.le_refl _)) h1.sane hl ha h10 (by omega) (by omega)).mono ?_
  rintro e w' ⟨hf, vp', ps', S', X', hr', hp', hS', hX', hk⟩
  exact ⟨hf, T, M, h1.keeps hk (mine_notVB h1 h3), h2, h3, h4, Nat.le_trans h5 hk.size, below_keeps h6 hk (fun j e => Nat.le_trans h4 e.1), vp', ps', L, S', X', hr', by omega, by omega, hp'⟩
end Go.Proofs.YtmaahompmgmkfaaGreat
/- The two machines of the law: grounds. Own work. -/
namespace Go.Proofs.YtmaahompmgmkfaaGreat
open Go.RowKit Go.Maps Go.Proofs.YtmaahompmgmkfaaGreat.Sp Wk
set_option maxHeartbeats 1000000 in
theorem rnewW_any {w : World} {vr vd : Value} : Calls Tryz.prog 19 #[.agg #[vr, vd]] w fun e w' => ∃ m, e = .returned (.pointer (some ⟨m, 0, none⟩)) ∧ Hid (RBox w' m vr vd (.slice none 0 0) 0 0 0) ∧ Hid (Below w.heap.size w w' ∧ w.heap.size ≤ m) := by
  go_enter Tryz.func19, Tryz.ntmps19
  go_wp2_with fail
  go_ret
  exact ⟨_, rfl, heap_alloc_newN (by simp) _, ((Below.refl _ _).alloc (Nat.le_refl _) _).alloc (by simp) _, by simp⟩
theorem sv_at {w : World} {ao : Option Addr} {n c : Nat} {xs : List Sp} (h : U64.SV w (.slice ao n c) xs) (j : Nat) (hj : j < xs.length) : ∃ g off, ao = some ⟨g, off, none⟩ ∧ w.cell? ⟨g, off + j * 2, none⟩ = some (.int .u64 xs[j].1) ∧ w.cell? ⟨g, off + j * 2 + 1, none⟩ = some (.int .u64 xs[j].2) := by
  obtain ⟨ao', cap, e, _, _, _, _, h5⟩ := h
  cases e
  exact h5 j hj
set_option maxRecDepth 100000 in
set_option maxHeartbeats 4000000 in
theorem grounds_any {w : World} {vr vd vw : Value} {rs ds ws : List Sp} (hr : U64.SV w vr rs) (hd : U64.SV w vd ds) (fr : Fits 18446744073709551615 rs) (fd : Fits 18446744073709551615 ds) (h0 : refW rs ds = 0) (hw : U64.SV w vw ws) (fw : Fits 18446744073709551615 ws) (hlw : ws.length ≤ 1152921504606846976) :
    Calls Tryz.prog 6 #[.agg #[vr, vd], vw] w fun e w' => ∃ m v base B V, e = .returned (.tuple #[.pointer (some ⟨m, 0, none⟩), .pointer (some ⟨v, 0, none⟩)]) ∧ Hid (GI w w' base m B V v vr vd rs ds ws.length ws.length) := by
  have HB0 : Hid (Below w.heap.size w (w.alloc (Obj.cells #[vr, vd] 24))) := (Below.refl _ _).alloc (Nat.le_refl _) _
  have HR0 : Hid (U64.SV w vr rs) := hr
  have HD0 : Hid (U64.SV w vd ds) := hd
  have HW0 : Hid (U64.SV w vw ws) := hw
  have HFw : Hid (Fits 18446744073709551615 ws) := fw
  have HSn := Lib.hid (refW_sane fr fd h0)
  have HX0 : Hid ((w.alloc (Obj.cells #[vr, vd] 24)).cell? ⟨w.heap.size, 0, none⟩ = some vr ∧ (w.alloc (Obj.cells #[vr, vd] 24)).cell? ⟨w.heap.size, 1, none⟩ = some vd) := U64.new2 rfl vr vd _
  have HRf : Hid (Calls Tryz.prog 17 #[.agg #[vr, vd]] (w.alloc (Obj.cells #[vr, vd] 24)) fun e w' => e = .returned (.int .i64 0) ∧ Below (w.alloc (Obj.cells #[vr, vd] 24)).heap.size (w.alloc (Obj.cells #[vr, vd] 24)) w') := by
    have h := refuses_any (hr.below HB0.out (Nat.le_refl _)) (hd.below HB0.out (Nat.le_refl _)) fr fd
    rw [h0] at h
    exact h
  have HNw : Hid (∀ W, Below w.heap.size w W → Calls Tryz.prog 18 #[.agg #[vr, vd]] W fun e w' => ∃ m B V, e = .returned (.tuple #[.pointer (some ⟨m, 0, none⟩), .int .i64 0]) ∧ Hid (Below W.heap.size W w') ∧ Hid (Mx w' m B V (fun _ => none) (fun _ => 0) rs ds 0 ∧ ∀ j, Mine m B V (fun _ => none) j → W.heap.size ≤ j)) := fun W hW => by
    refine (new_any (hr.below hW (Nat.le_refl _)) (hd.below hW (Nat.le_refl _)) fr fd).mono ?_
    rintro e w' ⟨pm, rfl, hb, hm⟩
    rcases hm.out with ⟨h1, _⟩ | ⟨_, m, B, V, rfl, h2, h3⟩
    · exact absurd h0 h1
    · exact ⟨m, B, V, by rw [h0], hb, ⟨0, 0, 0, Nat.le_refl _, Nat.le_refl _, Nat.le_refl _, h2⟩, h3⟩
  obtain ⟨aw, cw, rfl, hc1, hc2, hc3, hc4, hc5⟩ := hw
  unfold maxLen at hc2
  have HC := Lib.hid hc5
  obtain ⟨N, hN⟩ : ∃ N, N = ws.length := ⟨_, rfl⟩
  have HN : Hid (N = ws.length) := hN
  rw [← hN] at hc1 hlw HW0
  rw [← hN]
  clear hr hd fr fd fw hc3 hc4 hc5 h0 hN
  obtain ⟨x0, x1⟩ := HX0.out
  go_enter Tryz.func6, Tryz.ntmps6
  go_wp2_with fail
  refine HRf.out.mono ?_
  rintro e w1 ⟨rfl, hb1⟩
  have HB1 : Hid (Below w.heap.size w w1) := HB0.out.trans (hb1.mono HB0.out.size)
  have y0 : w1.cell? ⟨w.heap.size, 0, none⟩ = some vr := (hb1.cell (p := ⟨w.heap.size, 0, none⟩) (by simp)).trans HX0.out.1
  have y1 : w1.cell? ⟨w.heap.size, 1, none⟩ = some vd := (hb1.cell (p := ⟨w.heap.size, 1, none⟩) (by simp)).trans HX0.out.2
  have hl1 : w.heap.size < w1.heap.size := by have := hb1.size; simp at this; omega
  have HC1 := Lib.hid (HNw.out w1 HB1.out)
  clear HRf HNw HX0 x0 x1 hb1
  go_wp2_with fail
  refine HC1.out.mono ?_
  rintro e w2 ⟨m, B, V, rfl, HB2, HM2⟩
  have z0 : w2.cell? ⟨w.heap.size, 0, none⟩ = some vr := (HB2.out.cell (p := ⟨w.heap.size, 0, none⟩) hl1).trans y0
  have z1 : w2.cell? ⟨w.heap.size, 1, none⟩ = some vd := (HB2.out.cell (p := ⟨w.heap.size, 1, none⟩) hl1).trans y1
  have HB2' : Hid (Below w.heap.size w w2) := HB1.out.trans (HB2.out.mono HB1.out.size)
  have hl2 : w1.heap.size ≤ w2.heap.size := HB2.out.size
  clear HC1 y0 y1
  go_wp2_with fail
  refine rnewW_any.mono ?_
  rintro e w3 ⟨v, rfl, HV3, HB3⟩
  have HG3 : Hid (GI w w3 w2.heap.size m B V v vr vd rs ds 0 0) := ⟨_, _, HM2.out.1.below HB3.out.1, fun j hj => Nat.le_trans (Nat.le_of_lt hl1) (HM2.out.2 j hj), fun j hj => HM2.out.1.mine_lt hj, by omega, HB3.out.1.size, HB2'.out.trans (HB3.out.1.mono HB2'.out.size), _, [], 0, 0, 0, ⟨HB3.out.2, HV3.out, World.ownsRow_nil w3 _ _ 2, by simp⟩, Nat.le_refl _, Nat.le_refl _, Pn.nil⟩
  generalize w2.heap.size = base at HG3
  clear HM2 HB2 HB2' HV3 HB3 z0 z1 HB1 hl1 hl2 HB0
  go_wp2_with fail
  go_loopw [9] (fun iv wr => ∃ i : Nat, i ≤ N ∧ iv = .int .i64 (i : Int) ∧ Hid (GI w wr base m B V v vr vd rs ds i i)) (fun iv _ => N - (intOf iv).toNat)
  case atStart => exact ⟨0, Nat.zero_le _, rfl, HG3⟩
  case round =>
    obtain ⟨i, hi, rfl, HG⟩ := hrel
    by_cases hlt : i < N
    · have qi : (i : Int) < (N : Int) := by omega
      have hil : i < ws.length := by rw [← HN.out]; exact hlt
      have HBr : Hid (Below w.heap.size w wr) := by obtain ⟨_, _, _, _, _, _, _, h, _⟩ := HG.out; exact h
      obtain ⟨g, off, rfl, d0, d1⟩ := sv_at (HW0.out.below HBr.out (Nat.le_refl _)) i hil
      obtain ⟨p0, p1, p2, p3⟩ := HFw.out _ (List.getElem_mem hil)
      generalize hxi : ws[i] = x at *
      obtain ⟨x1, x2⟩ := x
      obtain ⟨a, rfl⟩ : ∃ a : Nat, x1 = (a : Int) := ⟨x1.toNat, by simp only at p0; omega⟩
      obtain ⟨val, rfl⟩ : ∃ a : Nat, x2 = (a : Int) := ⟨x2.toNat, by simp only at p2; omega⟩
      simp only at p0 p1 p2 p3 d0 d1
      have HS1 : Hid (∀ W, Below wr.heap.size wr W → Calls Tryz.prog 20 #[.pointer (some ⟨m, 0, none⟩), .int .u64 (a : Int), .int .i64 8, .int .u64 (val : Int)] W fun e w' => (∃ f, e = .returned f) ∧ Hid (GI w w' base m B V v vr vd rs ds (i + 1) i)) := fun W hW => g_store1 (HG.out.below hW) (by omega) (by omega) (by omega)
      have HS2 : Hid (∀ wq W, GI w wq base m B V v vr vd rs ds (i + 1) i → Below wq.heap.size wq W → Calls Tryz.prog 21 #[.pointer (some ⟨v, 0, none⟩), .int .u64 (a : Int), .int .i64 8, .int .u64 (val : Int)] W fun e w' => (∃ f, e = .returned f) ∧ Hid (GI w w' base m B V v vr vd rs ds (i + 1) (i + 1))) := fun wq W hG hW => g_store2 (hG.below hW) HR0.out HD0.out (by have := HSn.out.2; omega) (by omega) (by omega)
      have HXi : Hid (ws[i] = ((a : Int), (val : Int))) := hxi
      have HBd : Hid (Below wr.heap.size wr wr.drew) := (Below.refl _ _).drew
      clear hxi p0 p1 p2 p3
      go_wp2_with fail
      go_region_with (go_at_call 20; refine (HS1.out _ HBd.out).mono ?_; rintro e w4 ⟨⟨f, rfl⟩, HG4⟩)
      all_goals
        have HB4 : Hid (Below w.heap.size w w4) := by obtain ⟨_, _, _, _, _, _, _, h, _⟩ := HG4.out; exact h
        obtain ⟨g', off', hgo, e0, e1⟩ := sv_at (HW0.out.below HB4.out (Nat.le_refl _)) i hil
        cases hgo
        rw [HXi.out] at e0 e1
        simp only at e0 e1
        have HBd4 : Hid (Below w4.heap.size w4 w4.drew) := (Below.refl _ _).drew
        clear d0 d1 HS1 HBd
        go_wp2_with fail
        go_region_with (go_at_call 21; refine (HS2.out _ _ HG4.out HBd4.out).mono ?_; rintro e w5 ⟨⟨f', rfl⟩, HG5⟩)
        all_goals
          go_wp2_with fail
          go_roundw
          case rel => exact ⟨i + 1, by omega, by go_num, HG5⟩
          case measure => simp [intOf]; omega
    · obtain rfl : i = N := by omega
      go_wp2_with fail
      go_ret2
      exact ⟨m, v, base, B, V, rfl, HG⟩
end Go.Proofs.YtmaahompmgmkfaaGreat
/- Rows of numbers that grow. Own work. -/
namespace Go.Proofs.YtmaahompmgmkfaaGreat
open Go.RowKit Go.Maps Go.Proofs.YtmaahompmgmkfaaGreat.Sp Wk
def encA (xs : List Nat) : List Value := xs.map fun (z : Nat) => Value.int .u64 (z : Int)
/-- a row of numbers that is owned -/
def OwnA (w : World) (base : Nat) (v : Value) (xs : List Nat) : Prop := w.ownsRow base 26 1 v xs.length (encA xs)
theorem OwnA.nil (w : World) (base : Nat) : OwnA w base (.slice none 0 0) [] := World.ownsRow_nil w base 26 1
theorem OwnA.lt {w : World} {base : Nat} {v : Value} {xs : List Nat} (h : OwnA w base v xs) : ∀ k, v.ownBlock = some k → base ≤ k ∧ k < w.heap.size := World.ownsRow.lt h
theorem OwnA.keeps {S : Nat → Prop} {w w' : World} {base : Nat} {v : Value} {xs : List Nat} (h : OwnA w base v xs) (hk : Keeps S w w') (hn : ∀ k, v.ownBlock = some k → ¬ S k) : OwnA w' base v xs := by
  refine ⟨h.1, ?_⟩
  rcases h.2 with hv | ⟨g, cap, cur, rfl, hb, hgg, rest⟩
  · exact .inl hv
  · exact .inr ⟨g, cap, cur, rfl, hb, (hk.block g (Array.getElem?_eq_some_iff.1 hgg).1 (hn g rfl)).trans hgg, rest⟩
theorem OwnA.below {w w' : World} {base : Nat} {v : Value} {xs : List Nat} (h : OwnA w base v xs) (hb : Below w.heap.size w w') : OwnA w' base v xs := h.keeps (Keeps.of_below (S := fun _ => False) hb) (fun _ _ e => e)
theorem OwnA.form {w : World} {base : Nat} {v : Value} {xs : List Nat} (h : OwnA w base v xs) : ∃ a c, v = .slice a xs.length c ∧ xs.length ≤ c ∧ c ≤ maxLen := by
  rcases h.2 with ⟨rfl, h0⟩ | ⟨g, cap, cur, rfl, hb, hg, h1, h2, _⟩
  · exact ⟨none, 0, by rw [h0], by omega, Nat.zero_le _⟩
  · exact ⟨_, cap, rfl, h1, h2⟩
theorem OwnA.cell {w : World} {base : Nat} {a : Option Addr} {n c : Nat} {xs : List Nat} (h : OwnA w base (.slice a n c) xs) (j : Nat) (hj : j < xs.length) : ∃ g, a = some ⟨g, 0, none⟩ ∧ w.cell? ⟨g, j, none⟩ = some (.int .u64 (xs[j] : Int)) := by
  rcases h.2 with ⟨e, h0⟩ | ⟨g, cap, cur, e, hb, hg, h1, h2, h3, h4⟩
  · omega
  · cases e
    refine ⟨g, rfl, ?_⟩
    rw [World.ownsRow.cellAt h j (by omega)]
    simp [encA, hj]
theorem info_u64 : (Tryz.prog.info? 26).map (fun i => (i.zero, i.size, i.bytes)) = some (some (.int .u64 0), 1, 8) := by kernel_rfl
theorem wpList_appendA {w : World} {base : Nat} {ops : Array Oper} {rest : List Oper} {o : Oper} {a : Act} {Q : Exit → Act → World → Prop} (hw : Region.wanted o (yielded ops a.tmps) = true) (s x : Operand)
    (ho : o.op = .call { callee := .builtin .append, args := #[s, x], argTypes := #[43, 43] }) {v : Value} {xs : List Nat} {z g cap : Nat} (hown : OwnA w base v xs) (hs : a.eval s = v) (hx : a.eval x = .slice (some ⟨g, 0, none⟩) 1 cap) (hg : w.cell? ⟨g, 0, none⟩ = some (.int .u64 (z : Int))) (hb : xs.length ≤ 1048576) (hbase : base ≤ w.heap.size)
    (h : ∀ v' w', OwnA w' base v' (xs ++ [z]) → w.grownBy w' v.ownBlock → (v'.ownBlock = v.ownBlock ∨ v'.ownBlock = some w.heap.size) → wpList Tryz.prog ops Q rest (a.put o.dst v') w') : wpList Tryz.prog ops Q (o :: rest) a w := by
  refine wpList_step fun K hK => ?_
  rw [if_pos hw]
  obtain ⟨i, hi, hz0, hz1, hz2⟩ := info_parts info_u64
  obtain ⟨v', w', r1, r2, r3, _, r5⟩ := run_append_own_at (P := Tryz.prog) w base 43 o.type 26 i (.int .u64 0) 1 8 Tryz.underlying43 hi hz0 hz1 hz2 rfl (by omega) v xs.length (encA xs) hown ⟨g, 0, none⟩ 1 cap [.int .u64 (z : Int)] rfl (fun j u hj => by
    rw [Addr.add_lit, Nat.zero_add]
    match j, hj with
    | 0, hj => rw [hg]; exact hj) (fun u hu => by obtain rfl := List.mem_singleton.1 hu; rfl) (by unfold maxLen; omega) (by omega) hbase
  have h2 : OwnA w' base v' (xs ++ [z]) := by
    unfold OwnA
    rw [List.length_append, List.length_singleton, encA, List.map_append]
    exact r2
  unfold Oper.wp execOp
  simp only [ho, resolve, invoke, builtin, Sem.run_bind, Sem.run_pure, Result.andThen_ok, List.map_toArray, List.map_cons, List.map_nil, hs, hx, r1]
  exact hK _ _ (h v' w' h2 r3 r5)
end Go.Proofs.YtmaahompmgmkfaaGreat
/- The law's helpers: Within, Same; faults that are compared. Own work. -/
namespace Go.Proofs.YtmaahompmgmkfaaGreat
open Go.RowKit Go.Maps Go.Proofs.YtmaahompmgmkfaaGreat.Sp Wk
set_option maxRecDepth 100000 in
set_option maxHeartbeats 4000000 in
theorem within3_any {n : Int} (w : World) :
    Calls Tryz.prog 7 #[.int .i64 n, .int .i64 0, .int .i64 3] w fun e w' => ∃ r : Nat, e = .returned (.int .i64 (r : Int)) ∧ r ≤ 3 ∧ w' = w := by
  obtain ⟨q, hq⟩ : ∃ q, q = n.tmod 4 := ⟨_, rfl⟩
  have hq1 : -4 < q ∧ q < 4 := by
    have := Int.tmod_lt_of_pos n (b := 4) (by omega)
    have := Int.lt_tmod_of_pos n (b := 4) (by omega)
    omega
  go_enter Tryz.func7, Tryz.ntmps7
  go_wp2_with fail
  all_goals (go_ret; rw [← hq] at *)
  · exact ⟨(q + 3 + 1).toNat, by rw [Int.toNat_of_nonneg (by omega)]; rfl, by omega, rfl⟩
  · exact ⟨q.toNat, by rw [Int.toNat_of_nonneg (by omega)]; rfl, by omega, rfl⟩
set_option maxRecDepth 100000 in
set_option maxHeartbeats 4000000 in
theorem same_yes {w : World} {a b : Option Addr} {L : List Nat} {n c d : Nat} (ha : ∀ i, i < n → ∃ g, a = some ⟨g, 0, none⟩ ∧ g < w.heap.size ∧ w.cell? ⟨g, i, none⟩ = some (.int .u8 ((L.getD i 0 : Nat) : Int))) (hb : ∀ i, i < n → ∃ g, b = some ⟨g, 0, none⟩ ∧ g < w.heap.size ∧ w.cell? ⟨g, i, none⟩ = some (.int .u8 ((L.getD i 0 : Nat) : Int))) (hc : n ≤ c ∧ c ≤ 9223372036854775807) (hd : n ≤ d ∧ d ≤ 9223372036854775807) :
    Calls Tryz.prog 15 #[.slice a n c, .slice b n d] w fun e w' => e = .returned (.bool true) ∧ Below w.heap.size w w' := by
  have HA : Hid (∀ W, Below w.heap.size w W → ∀ i, i < n → ∃ g, a = some ⟨g, 0, none⟩ ∧ W.cell? ⟨g, i, none⟩ = some (.int .u8 ((L.getD i 0 : Nat) : Int))) := fun W hW i hi => by
    obtain ⟨g, e, h1, h2⟩ := ha i hi
    exact ⟨g, e, (hW.cell (p := ⟨g, i, none⟩) h1).trans h2⟩
  have HB : Hid (∀ W, Below w.heap.size w W → ∀ i, i < n → ∃ g, b = some ⟨g, 0, none⟩ ∧ W.cell? ⟨g, i, none⟩ = some (.int .u8 ((L.getD i 0 : Nat) : Int))) := fun W hW i hi => by
    obtain ⟨g, e, h1, h2⟩ := hb i hi
    exact ⟨g, e, (hW.cell (p := ⟨g, i, none⟩) h1).trans h2⟩
  have hbig : n ≤ 9223372036854775807 := by omega
  obtain ⟨hc1, hc2⟩ := hc
  obtain ⟨hd1, hd2⟩ := hd
  clear ha hb
  go_enter Tryz.func15, Tryz.ntmps15
  go_wp2_with fail
  go_loopw [5] (fun x wr => ∃ (i : Nat), i ≤ n ∧ x = .int .i64 (i : Int) ∧ Hid (Below w.heap.size w wr)) (fun x _ => match x with | .int _ z => n - z.toNat | _ => 0)
  case atStart => exact ⟨0, by omega, rfl, Below.refl _ _⟩
  case round =>
    obtain ⟨i, hi, rfl, HK⟩ := hrel
    by_cases hlt : i < n
    · obtain ⟨g, rfl, h1⟩ := HA.out wr HK.out i hlt
      obtain ⟨g', rfl, h2⟩ := HB.out wr HK.out i hlt
      generalize L.getD i 0 = z at h1 h2
      go_wp2_with fail
      go_region
      go_wp2_with fail
      go_roundw
      case rel => exact ⟨i + 1, by omega, by go_num, HK.out.drew⟩
      case measure => simp; omega
    · obtain rfl : i = n := by omega
      go_wp2_with fail
      go_ret
      exact ⟨rfl, HK.out⟩
theorem neqF (w : World) (a b : Int) : (binOp .neq 37 (.agg #[.int .i64 a, .int .u64 b]) (.agg #[.int .i64 a, .int .u64 b])).run Tryz.prog w = .ok (.bool false) w := by
  have u1 := Tryz.underlying35
  have a1 := Tryz.isAgg35
  have z1 := Tryz.sizeOf35
  have u := Tryz.underlying26
  have a2 := Tryz.isAgg26
  have z := Tryz.sizeOf26
  have hS : Tryz.prog.underlying 37 = some (.struct (Tryz.prog.fieldsOf 37)) := by kernel_rfl
  have hp : Tryz.prog.stoodInHeld 37 = false := by kernel_rfl
  rw [run_neq_struct, show (10000 : Nat) = 9999 + 1 from rfl, run_equalIn_agg w 9999 37 _ _ hS hp]
  simp only [Program.fieldsOf, Tryz.underlying37]
  go_simp
theorem four_cells (w : World) (q : Nat) (hq : q ≤ 3) : ∃ k : Nat, Wide k ∧ (w.alloc (Obj.cells #[.int .i64 1, .int .i64 2, .int .i64 4, .int .i64 8] 3)).cell? ⟨w.heap.size, q, none⟩ = some (.int .i64 (k : Int)) := by
  have hc := cell_of_row (w.alloc (Obj.cells #[.int .i64 1, .int .i64 2, .int .i64 4, .int .i64 8] 3)) w.heap.size q _ _ _ (heap_alloc_new w _)
  rcases (by omega : q = 0 ∨ q = 1 ∨ q = 2 ∨ q = 3) with rfl | rfl | rfl | rfl
  · exact ⟨1, .inl rfl, hc⟩
  · exact ⟨2, .inr (.inl rfl), hc⟩
  · exact ⟨4, .inr (.inr (.inl rfl)), hc⟩
  · exact ⟨8, .inr (.inr (.inr rfl)), hc⟩
end Go.Proofs.YtmaahompmgmkfaaGreat
