import Derived.Test.YtlplbbnicfeoaaaGreatPk20
/- stretch, behind, merge; Or, Meet, Less. Own work. -/
namespace Go.Proofs.YtlplbbnicfeoaaaGreat.U64
open Go.RowKit Go.Shelf Go.Proofs.YtlplbbnicfeoaaaGreat.Sp

set_option maxHeartbeats 1000000 in
theorem stretch_any {w : World} {v : Value} {xs : List Sp} {first : Int} (hv : SV w v xs) (hc : Canon 18446744073709551615 xs) (h0 : 0 ≤ first) :
    Calls Tryz.prog 107 #[v, .int .u64 first] w fun e w' => e = .returned (.tuple #[.int .u64 (stretched 18446744073709551615 xs first).1, .bool (stretched 18446744073709551615 xs first).2]) ∧ w' = w := by
  obtain ⟨ao, cap, rfl, h1, h2, h3, h4, h5⟩ := hv
  cases xs with
  | nil =>
    clear h5
    go_enter Tryz.func107, Tryz.ntmps107
    go_wp2
    go_ret2
    exact ⟨rfl, rfl⟩
  | cons x r =>
    obtain ⟨g, off, rfl, c0, c1⟩ := h5 0 (by simp)
    have hb := (canon_cons.1 hc).1
    simp only [List.getElem_cons_zero, Nat.zero_mul, Nat.add_zero] at c0 c1
    by_cases g1 : first < x.1
    · have hs : stretched 18446744073709551615 (x :: r) first = (x.1 - 1, false) := by simp [stretched, g1]
      rw [hs]
      clear h5 hc hs
      go_enter Tryz.func107, Tryz.ntmps107
      go_wp2
      go_ret2
      exact ⟨rfl, rfl⟩
    · have hs : stretched 18446744073709551615 (x :: r) first = (x.2, true) := by simp [stretched, g1]
      rw [hs]
      clear h5 hc hs
      go_enter Tryz.func107, Tryz.ntmps107
      go_wp2
      go_ret2
      exact ⟨rfl, rfl⟩
theorem SV.tail {w : World} {g off cap : Nat} {x : Sp} {r : List Sp} (h : SV w (.slice (some ⟨g, off, none⟩) (x :: r).length cap) (x :: r)) : SV w (.slice (some ⟨g, off + 2, none⟩) r.length (cap - 1)) r := by
  obtain ⟨ao, cap, e, h1, h2, h3, h4, h5⟩ := h
  cases e
  obtain ⟨g', off', e', hg⟩ := h4 _ rfl
  cases e'
  refine ⟨_, _, rfl, by simp at h1; omega, by omega, fun e => (by cases e), fun a e => (by cases e; exact ⟨g, off + 2, rfl, hg⟩), fun j hj => ?_⟩
  obtain ⟨g', off', e', d0, d1⟩ := h5 (j + 1) (by simpa using hj)
  cases e'
  refine ⟨g, off + 2, rfl, ?_, ?_⟩
  · rw [show off + 2 + j * 2 = off + (j + 1) * 2 by omega]; simpa using d0
  · rw [show off + 2 + j * 2 + 1 = off + (j + 1) * 2 + 1 by omega]; simpa using d1
theorem SV.tail1 {w : World} {g off : Nat} {x : Sp} {r : List Sp} (h : SV w (.slice (some ⟨g, off, none⟩) (x :: r).length 1) (x :: r)) : SV w (.slice (some ⟨g, off, none⟩) r.length 0) r := by
  obtain ⟨ao, cap, e, h1, h2, h3, h4, h5⟩ := h
  cases e
  obtain rfl : r = [] := List.eq_nil_of_length_eq_zero (by simp only [List.length_cons] at h1; omega)
  exact ⟨_, _, rfl, Nat.le_refl _, Nat.zero_le _, fun e => (by cases e), h4, fun j hj => by simp at hj⟩
set_option maxHeartbeats 1000000 in
theorem behind_any {w : World} {v : Value} {xs : List Sp} {last : Int} (hv : SV w v xs) :
    Calls Tryz.prog 108 #[v, .int .u64 last] w fun e w' => ∃ v', e = .returned v' ∧ (∀ W, SV W v xs → SV W v' (behindOf xs last)) ∧ w' = w := by
  obtain ⟨ao, cap, rfl, h1, h2, h3, h4, h5⟩ := hv
  cases xs with
  | nil =>
    clear h5
    go_enter Tryz.func108, Tryz.ntmps108
    go_wp2
    go_ret
    exact ⟨_, rfl, fun _ h => h, rfl⟩
  | cons x r =>
    obtain ⟨g, off, rfl, c0, c1⟩ := h5 0 (by simp)
    simp only [List.getElem_cons_zero, Nat.zero_mul, Nat.add_zero] at c0 c1
    by_cases g1 : x.2 = last
    · have hs : behindOf (x :: r) last = r := by simp [behindOf, g1]
      rw [hs]
      clear h5 hs
      by_cases hc1 : cap = 1
      · subst hc1
        go_enter Tryz.func108, Tryz.ntmps108
        go_wp2
        go_ret
        exact ⟨_, rfl, fun _ h => h.tail1, rfl⟩
      · go_enter Tryz.func108, Tryz.ntmps108
        go_wp2
        go_ret
        exact ⟨_, rfl, fun _ h => h.tail, rfl⟩
    · have hs : behindOf (x :: r) last = x :: r := by simp [behindOf, g1]
      rw [hs]
      clear h5 hs
      go_enter Tryz.func108, Tryz.ntmps108
      go_wp2
      go_ret
      exact ⟨_, rfl, fun _ h => h, rfl⟩

theorem Own.low {w : World} {base : Nat} {v : Value} {xs : List Sp} (h : Own w base v xs) {b : Nat} (hb : b < base) (i : Nat) (u : Value) : Own (w.setCell ⟨b, i, none⟩ u) base v xs := by
  refine ⟨h.1, ?_⟩
  rcases h.2 with hv | ⟨g, cap, cur, rfl, hbb, hgg, rest⟩
  · exact .inl hv
  · refine .inr ⟨g, cap, cur, rfl, hbb, ?_, rest⟩
    rw [Below.heap_setCell _ _ _ _ (by show g ≠ b; omega)]
    exact hgg
theorem Own.lower {w : World} {base base' : Nat} {v : Value} {xs : List Sp} (h : Own w base v xs) (hb : base' ≤ base) : Own w base' v xs := by
  refine ⟨h.1, ?_⟩
  rcases h.2 with hv | ⟨g, cap, cur, rfl, hbb, rest⟩
  · exact .inl hv
  · exact .inr ⟨g, cap, cur, rfl, Nat.le_trans hb hbb, rest⟩
/-- What a call that makes a set hands back. -/
def SetPost (w : World) (R : List Sp → Prop) (e : Ending) (w' : World) : Prop := ∃ v rs, e = .returned (.agg #[v]) ∧ Own w' w.heap.size v rs ∧ R rs ∧ Below w.heap.size w w'
/-- The cell of the result: the third new block. -/
theorem third_cell {w w2 : World} {a b : Obj} {v : Value} {t : TypeId} (h : Below (((w.alloc a).alloc b).alloc (.cells #[v] t)).heap.size (((w.alloc a).alloc b).alloc (.cells #[v] t)) w2) :
    w2.cell? ⟨w.heap.size + 1 + 1, 0, none⟩ = some v ∧ w2.frozen? ⟨w.heap.size + 1 + 1, 0, none⟩ = false := by
  have e := heap_alloc_new ((w.alloc a).alloc b) (.cells #[v] t)
  rw [show ((w.alloc a).alloc b).heap.size = w.heap.size + 1 + 1 by simp] at e
  have hb := (h.block (w.heap.size + 1 + 1) (by simp)).trans e
  exact ⟨by rw [cell_of_row _ _ 0 _ _ _ hb]; rfl, by simp [World.frozen?, hb]⟩
/-- Where the walk over two rows stands. -/
def At (W0 wr : World) (keep : Bool → Bool → Bool) (s t : List Sp) (v vs vt : Value) (first : Int) : Prop :=
  ∃ rs rt acc, Mid 18446744073709551615 keep s t first rs rt acc ∧ SV W0 vs rs ∧ SV W0 vt rt ∧ Own wr W0.heap.size v acc ∧ Below W0.heap.size W0 wr

set_option maxHeartbeats 2000000 in
theorem merge_any {w : World} {kf : Nat} {keep : Bool → Bool → Bool} {vs vt : Value} {s t : List Sp} (eg : ∀ args w, (callFunc kf args).run Tryz.prog w = .ok (.enter kf args) w)
    (hk : ∀ a b W, Calls Tryz.prog kf #[.bool a, .bool b] W fun e w' => e = .returned (.bool (keep a b)) ∧ w' = W)
    (hs : SV w vs s) (ht : SV w vt t) (cs : Canon 18446744073709551615 s) (ct : Canon 18446744073709551615 t) (hl : s.length + t.length ≤ 274877906944) :
    Calls Tryz.prog 92 #[.agg #[vs], .agg #[vt], .func (.func kf) #[] #[]] w fun e w' => SetPost w (Made 18446744073709551615 keep s t) e w' := by
  have HS : Hid (SV w vs s) := hs
  have HT : Hid (SV w vt t) := ht
  clear hs ht
  go_enter Tryz.func92, Tryz.ntmps92
  go_wp2_with fail
  go_quiet (fail)
  go_wp2_with fail
  obtain ⟨W0, hW0⟩ : ∃ W0, (((w.alloc (Obj.cells #[vs] 90)).alloc (Obj.cells #[vt] 90)).alloc (Obj.cells #[Value.slice none 0 0] 90)).drewN nq = W0 := ⟨_, rfl⟩
  have hZ : W0.heap.size = w.heap.size + 1 + 1 + 1 := by rw [← hW0]; simp
  have hC : W0.heap[w.heap.size + 1 + 1]? = some (Obj.cells #[Value.slice none 0 0] 90) := by
    rw [← hW0]
    have := heap_alloc_new ((w.alloc (Obj.cells #[vs] 90)).alloc (Obj.cells #[vt] 90)) (Obj.cells #[Value.slice none 0 0] 90)
    rwa [show ((w.alloc (Obj.cells #[vs] 90)).alloc (Obj.cells #[vt] 90)).heap.size = w.heap.size + 1 + 1 by simp] at this
  have hB0 : Below w.heap.size w W0 := by
    rw [← hW0]
    exact below_drewN' ((((Below.refl _ _).alloc (Nat.le_refl _) _).alloc (by simp) _).alloc (by simp; omega) _) _
  have HZ : Hid (W0.heap.size = w.heap.size + 1 + 1 + 1) := hZ
  have HC : Hid (W0.heap[w.heap.size + 1 + 1]? = some (Obj.cells #[Value.slice none 0 0] 90)) := hC
  have HB0 : Hid (Below w.heap.size w W0) := hB0
  clear hZ hC hB0
  rw [hW0]
  clear hW0
  have HS0 : Hid (SV W0 vs s) := HS.out.below HB0.out (Nat.le_refl _)
  have HT0 : Hid (SV W0 vt t) := HT.out.below HB0.out (Nat.le_refl _)
  clear HS HT
  go_loopw [7, 8, 9, 10] (fun v a b f wr => ∃ first, f = .int .u64 first ∧ Hid (At W0 wr keep s t v a b first)) (fun _ _ _ f _ => (18446744073709551615 + 1 - intOf f).toNat)
  case atStart => exact ⟨0, rfl, s, t, [], Mid.start (by decide) cs ct, HS0.out, HT0.out, Own.nil _ _, Below.refl _ _⟩
  case round =>
    obtain ⟨first, rfl, HA⟩ := hrel
    obtain ⟨rs, rt, acc, hM, hS, hT, hO, hB⟩ := HA.out
    obtain ⟨ls, is, hls⟩ : ∃ ls is, stretched 18446744073709551615 rs first = (ls, is) := ⟨_, _, rfl⟩
    obtain ⟨lt, it, hlt⟩ : ∃ lt it, stretched 18446744073709551615 rt first = (lt, it) := ⟨_, _, rfl⟩
    have hCS := stretch_any (hS.below hB (Nat.le_refl _)) hM.cs hM.hb.1
    have hCT := stretch_any (hT.below hB (Nat.le_refl _)) hM.ct hM.hb.1
    rw [hls] at hCS
    rw [hlt] at hCT
    have HCS : Hid (Calls Tryz.prog 107 #[u8, .int .u64 first] wr fun e w' => e = .returned (.tuple #[.int .u64 ls, .bool is]) ∧ w' = wr) := hCS
    have HCT : Hid (Calls Tryz.prog 107 #[u9, .int .u64 first] wr fun e w' => e = .returned (.tuple #[.int .u64 lt, .bool it]) ∧ w' = wr) := hCT
    have HLS : Hid (stretched 18446744073709551615 rs first = (ls, is)) := hls
    have HLT : Hid (stretched 18446744073709551615 rt first = (lt, it)) := hlt
    have HM : Hid (Mid 18446744073709551615 keep s t first rs rt acc) := hM
    have HSr : Hid (SV W0 u8 rs) := hS
    have HTr : Hid (SV W0 u9 rt) := hT
    have HO : Hid (Own wr W0.heap.size u7 acc) := hO
    have HB : Hid (Below W0.heap.size W0 wr) := hB
    obtain ⟨last, hlast⟩ : ∃ last, last = min ls lt := ⟨_, rfl⟩
    have hbd : first ≤ last ∧ last ≤ 18446744073709551615 := by
      have := hM.laid (last := last) (by rw [hls, hlt]; exact hlast)
      exact ⟨this.1, this.2.1⟩
    have hf0 := hM.hb
    have hac : acc.length ≤ 1099511627776 := by have := hM.wt; omega
    clear hM hS hT hO hB hls hlt hCS hCT
    have HLa : Hid (last = min (stretched 18446744073709551615 rs first).1 (stretched 18446744073709551615 rt first).1) := by rw [HLS.out, HLT.out]; exact hlast
    have HLm : Hid (last = min ls lt) := hlast
    clear hlast
    have HK := hk is it
    have hx : bits BinOp.xor IntKind.u64 (if IntKind.u64.signed = true then -1 else IntKind.u64.max) 0 = 18446744073709551615 := by decide
    have HCell : Hid (∀ W, Below W0.heap.size W0 W → W.cell? ⟨w.heap.size + 1 + 1, 0, none⟩ = some (.slice none 0 0) ∧ W.frozen? ⟨w.heap.size + 1 + 1, 0, none⟩ = false) := fun W hW => by
      have hz := HZ.out
      have hb := (hW.block (w.heap.size + 1 + 1) (by omega)).trans HC.out
      exact ⟨by rw [cell_of_row _ _ 0 _ _ _ hb]; rfl, by simp [World.frozen?, hb]⟩
    go_wp2_with fail
    refine HCS.out.mono ?_
    rintro e w' ⟨rfl, hw⟩
    rw [hw]
    clear HCS hw w'
    go_wp2_with fail
    refine HCT.out.mono ?_
    rintro e w' ⟨rfl, hw⟩
    rw [hw]
    clear HCT hw w'
    go_wp2_with fail
    · obtain rfl : last = lt := by have := HLm.out; omega
      refine (HK _).mono ?_
      rintro e w' ⟨rfl, hw⟩
      rw [hw]
      clear hw w'
      by_cases hke : keep is it = true
      · rw [hke]
        go_wp2_with fail
        refine (join_any (x := (first, last)) HO.out HB.out.size HM.out.ca (by show first ≤ _; omega) hac).mono ?_
        rintro e w2 ⟨v2, rfl, hO2, hB2⟩
        have HO2 : Hid (Own w2 W0.heap.size v2 (if keep (stretched 18446744073709551615 rs first).2 (stretched 18446744073709551615 rt first).2 then joined acc (first, last) else acc)) := by rw [HLS.out, HLT.out, if_pos hke]; exact hO2
        have HB2 : Hid (Below W0.heap.size W0 w2) := HB.out.trans hB2
        obtain ⟨a2, c2, hv2⟩ : ∃ a c, v2 = .slice a (joined acc (first, last)).length c := by
          obtain ⟨a, c, e, _⟩ := hO2.sv
          exact ⟨a, c, e⟩
        rw [hv2] at HO2 ⊢
        clear hO2 hB2 hv2 v2
        obtain ⟨n2, hn2⟩ : ∃ n2, n2 = (joined acc (first, last)).length := ⟨_, rfl⟩
        rw [← hn2] at HO2 ⊢
        clear hn2
        by_cases hm : last = 18446744073709551615
        · have hq : (last == 18446744073709551615) = true := by simpa using hm
          obtain ⟨hce, hfe⟩ := HCell.out _ HB2.out
          go_wp2_with fail
          have d0 := World.cell?_setCell_same' w2 ⟨w.heap.size + 1 + 1, 0, none⟩ (.slice a2 n2 c2) (by rw [hce]; rfl)
          refine bodyPost_ret (v := .agg #[.slice a2 n2 c2]) (by simp [results, Tryz.results92, go_sem, d0]) rfl ?_
          exact ⟨_, _, rfl, (HO2.out.low (by have := HZ.out; omega) _ _).lower (by have := HZ.out; omega), HM.out.done HLa.out hm, (HB0.out.trans (HB2.out.mono HB0.out.size)).setCell (p := ⟨w.heap.size + 1 + 1, 0, none⟩) (by show w.heap.size ≤ w.heap.size + 1 + 1; omega) _⟩
        · have hq : (last == 18446744073709551615) = false := by simpa using hm
          go_wp2_with fail
          refine (behind_any (HSr.out.below HB2.out (Nat.le_refl _))).mono ?_
          rintro e w' ⟨v3, rfl, h3, hw⟩
          rw [hw]
          clear hw w'
          have HS3 : Hid (SV W0 v3 (behindOf rs last)) := h3 _ HSr.out
          clear h3
          go_wp2_with fail
          refine (behind_any (HTr.out.below HB2.out (Nat.le_refl _))).mono ?_
          rintro e w' ⟨v4, rfl, h4, hw⟩
          rw [hw]
          clear hw w'
          have HT3 : Hid (SV W0 v4 (behindOf rt last)) := h4 _ HTr.out
          clear h4
          go_wp2_with fail
          go_roundw
          case rel => exact ⟨last + 1, rfl, _, _, _, HM.out.next HLa.out hm, HS3.out, HT3.out, HO2.out, HB2.out⟩
          case measure => simp [intOf]; omega
      · rw [Bool.not_eq_true] at hke
        rw [hke]
        have HO2 : Hid (Own wr W0.heap.size u7 (if keep (stretched 18446744073709551615 rs first).2 (stretched 18446744073709551615 rt first).2 then joined acc (first, last) else acc)) := by rw [HLS.out, HLT.out, if_neg (by rw [hke]; simp)]; exact HO.out
        have HB2 : Hid (Below W0.heap.size W0 wr) := HB.out
        obtain ⟨a2, n2, c2, hv2⟩ : ∃ a n c, u7 = .slice a n c := by
          obtain ⟨a, c, e, _⟩ := HO.out.sv
          exact ⟨a, _, c, e⟩
        rw [hv2] at HO2 ⊢
        clear hv2
        by_cases hm : last = 18446744073709551615
        · have hq : (last == 18446744073709551615) = true := by simpa using hm
          obtain ⟨hce, hfe⟩ := HCell.out _ HB2.out
          go_wp2_with fail
          have d0 := World.cell?_setCell_same' wr ⟨w.heap.size + 1 + 1, 0, none⟩ (.slice a2 n2 c2) (by rw [hce]; rfl)
          refine bodyPost_ret (v := .agg #[.slice a2 n2 c2]) (by simp [results, Tryz.results92, go_sem, d0]) rfl ?_
          exact ⟨_, _, rfl, (HO2.out.low (by have := HZ.out; omega) _ _).lower (by have := HZ.out; omega), HM.out.done HLa.out hm, (HB0.out.trans (HB2.out.mono HB0.out.size)).setCell (p := ⟨w.heap.size + 1 + 1, 0, none⟩) (by show w.heap.size ≤ w.heap.size + 1 + 1; omega) _⟩
        · have hq : (last == 18446744073709551615) = false := by simpa using hm
          go_wp2_with fail
          refine (behind_any (HSr.out.below HB2.out (Nat.le_refl _))).mono ?_
          rintro e w' ⟨v3, rfl, h3, hw⟩
          rw [hw]
          clear hw w'
          have HS3 : Hid (SV W0 v3 (behindOf rs last)) := h3 _ HSr.out
          clear h3
          go_wp2_with fail
          refine (behind_any (HTr.out.below HB2.out (Nat.le_refl _))).mono ?_
          rintro e w' ⟨v4, rfl, h4, hw⟩
          rw [hw]
          clear hw w'
          have HT3 : Hid (SV W0 v4 (behindOf rt last)) := h4 _ HTr.out
          clear h4
          go_wp2_with fail
          go_roundw
          case rel => exact ⟨last + 1, rfl, _, _, _, HM.out.next HLa.out hm, HS3.out, HT3.out, HO2.out, HB2.out⟩
          case measure => simp [intOf]; omega
    · obtain rfl : last = ls := by have := HLm.out; omega
      refine (HK _).mono ?_
      rintro e w' ⟨rfl, hw⟩
      rw [hw]
      clear hw w'
      by_cases hke : keep is it = true
      · rw [hke]
        go_wp2_with fail
        refine (join_any (x := (first, last)) HO.out HB.out.size HM.out.ca (by show first ≤ _; omega) hac).mono ?_
        rintro e w2 ⟨v2, rfl, hO2, hB2⟩
        have HO2 : Hid (Own w2 W0.heap.size v2 (if keep (stretched 18446744073709551615 rs first).2 (stretched 18446744073709551615 rt first).2 then joined acc (first, last) else acc)) := by rw [HLS.out, HLT.out, if_pos hke]; exact hO2
        have HB2 : Hid (Below W0.heap.size W0 w2) := HB.out.trans hB2
        obtain ⟨a2, c2, hv2⟩ : ∃ a c, v2 = .slice a (joined acc (first, last)).length c := by
          obtain ⟨a, c, e, _⟩ := hO2.sv
          exact ⟨a, c, e⟩
        rw [hv2] at HO2 ⊢
        clear hO2 hB2 hv2 v2
        obtain ⟨n2, hn2⟩ : ∃ n2, n2 = (joined acc (first, last)).length := ⟨_, rfl⟩
        rw [← hn2] at HO2 ⊢
        clear hn2
        by_cases hm : last = 18446744073709551615
        · have hq : (last == 18446744073709551615) = true := by simpa using hm
          obtain ⟨hce, hfe⟩ := HCell.out _ HB2.out
          go_wp2_with fail
          have d0 := World.cell?_setCell_same' w2 ⟨w.heap.size + 1 + 1, 0, none⟩ (.slice a2 n2 c2) (by rw [hce]; rfl)
          refine bodyPost_ret (v := .agg #[.slice a2 n2 c2]) (by simp [results, Tryz.results92, go_sem, d0]) rfl ?_
          exact ⟨_, _, rfl, (HO2.out.low (by have := HZ.out; omega) _ _).lower (by have := HZ.out; omega), HM.out.done HLa.out hm, (HB0.out.trans (HB2.out.mono HB0.out.size)).setCell (p := ⟨w.heap.size + 1 + 1, 0, none⟩) (by show w.heap.size ≤ w.heap.size + 1 + 1; omega) _⟩
        · have hq : (last == 18446744073709551615) = false := by simpa using hm
          go_wp2_with fail
          refine (behind_any (HSr.out.below HB2.out (Nat.le_refl _))).mono ?_
          rintro e w' ⟨v3, rfl, h3, hw⟩
          rw [hw]
          clear hw w'
          have HS3 : Hid (SV W0 v3 (behindOf rs last)) := h3 _ HSr.out
          clear h3
          go_wp2_with fail
          refine (behind_any (HTr.out.below HB2.out (Nat.le_refl _))).mono ?_
          rintro e w' ⟨v4, rfl, h4, hw⟩
          rw [hw]
          clear hw w'
          have HT3 : Hid (SV W0 v4 (behindOf rt last)) := h4 _ HTr.out
          clear h4
          go_wp2_with fail
          go_roundw
          case rel => exact ⟨last + 1, rfl, _, _, _, HM.out.next HLa.out hm, HS3.out, HT3.out, HO2.out, HB2.out⟩
          case measure => simp [intOf]; omega
      · rw [Bool.not_eq_true] at hke
        rw [hke]
        have HO2 : Hid (Own wr W0.heap.size u7 (if keep (stretched 18446744073709551615 rs first).2 (stretched 18446744073709551615 rt first).2 then joined acc (first, last) else acc)) := by rw [HLS.out, HLT.out, if_neg (by rw [hke]; simp)]; exact HO.out
        have HB2 : Hid (Below W0.heap.size W0 wr) := HB.out
        obtain ⟨a2, n2, c2, hv2⟩ : ∃ a n c, u7 = .slice a n c := by
          obtain ⟨a, c, e, _⟩ := HO.out.sv
          exact ⟨a, _, c, e⟩
        rw [hv2] at HO2 ⊢
        clear hv2
        by_cases hm : last = 18446744073709551615
        · have hq : (last == 18446744073709551615) = true := by simpa using hm
          obtain ⟨hce, hfe⟩ := HCell.out _ HB2.out
          go_wp2_with fail
          have d0 := World.cell?_setCell_same' wr ⟨w.heap.size + 1 + 1, 0, none⟩ (.slice a2 n2 c2) (by rw [hce]; rfl)
          refine bodyPost_ret (v := .agg #[.slice a2 n2 c2]) (by simp [results, Tryz.results92, go_sem, d0]) rfl ?_
          exact ⟨_, _, rfl, (HO2.out.low (by have := HZ.out; omega) _ _).lower (by have := HZ.out; omega), HM.out.done HLa.out hm, (HB0.out.trans (HB2.out.mono HB0.out.size)).setCell (p := ⟨w.heap.size + 1 + 1, 0, none⟩) (by show w.heap.size ≤ w.heap.size + 1 + 1; omega) _⟩
        · have hq : (last == 18446744073709551615) = false := by simpa using hm
          go_wp2_with fail
          refine (behind_any (HSr.out.below HB2.out (Nat.le_refl _))).mono ?_
          rintro e w' ⟨v3, rfl, h3, hw⟩
          rw [hw]
          clear hw w'
          have HS3 : Hid (SV W0 v3 (behindOf rs last)) := h3 _ HSr.out
          clear h3
          go_wp2_with fail
          refine (behind_any (HTr.out.below HB2.out (Nat.le_refl _))).mono ?_
          rintro e w' ⟨v4, rfl, h4, hw⟩
          rw [hw]
          clear hw w'
          have HT3 : Hid (SV W0 v4 (behindOf rt last)) := h4 _ HTr.out
          clear h4
          go_wp2_with fail
          go_roundw
          case rel => exact ⟨last + 1, rfl, _, _, _, HM.out.next HLa.out hm, HS3.out, HT3.out, HO2.out, HB2.out⟩
          case measure => simp [intOf]; omega

theorem or1 (a b : Bool) (W : World) : Calls Tryz.prog 93 #[.bool a, .bool b] W fun e w' => e = .returned (.bool (a || b)) ∧ w' = W := by
  cases a <;> cases b
  all_goals
    go_enter Tryz.func93, Tryz.ntmps93
    go_wp2
    go_ret
    exact ⟨rfl, rfl⟩
theorem less1 (a b : Bool) (W : World) : Calls Tryz.prog 114 #[.bool a, .bool b] W fun e w' => e = .returned (.bool (a && !b)) ∧ w' = W := by
  cases a <;> cases b
  all_goals
    go_enter Tryz.func114, Tryz.ntmps114
    go_wp2
    go_ret
    exact ⟨rfl, rfl⟩
end Go.Proofs.YtlplbbnicfeoaaaGreat.U64
/- Or, Meet, Less. Own work (made by a program). -/
namespace Go.Proofs.YtlplbbnicfeoaaaGreat.U64
open Go.RowKit Go.Shelf Go.Proofs.YtlplbbnicfeoaaaGreat.Sp


set_option maxHeartbeats 1000000 in
theorem or_any {w : World} {vs vt : Value} {s t : List Sp} (hs : SV w vs s) (ht : SV w vt t) (cs : Canon 18446744073709551615 s) (ct : Canon 18446744073709551615 t) (hl : s.length + t.length ≤ 274877906944) :
    Calls Tryz.prog 84 #[.agg #[vs], .agg #[vt]] w (SetPost w (Made 18446744073709551615 (fun a b => a || b) s t)) := by
  have HB : Hid (∀ a b c, Below w.heap.size w (((w.alloc a).alloc b).alloc c)) := fun a b c => (((Below.refl _ _).alloc (Nat.le_refl _) _).alloc (by simp) _).alloc (by simp; omega) _
  have HM : Hid (∀ a b c, Calls Tryz.prog 92 #[.agg #[vs], .agg #[vt], .func (.func 93) #[] #[]] (((w.alloc a).alloc b).alloc c) (SetPost (((w.alloc a).alloc b).alloc c) (Made 18446744073709551615 (fun a b => a || b) s t))) :=
    fun a b c => merge_any (enters_of Tryz.func93 (by kernel_rfl) rfl) or1 (hs.below (HB.out a b c) (Nat.le_refl _)) (ht.below (HB.out a b c) (Nat.le_refl _)) cs ct hl
  clear hs ht cs ct hl
  go_enter Tryz.func84, Tryz.ntmps84
  go_wp2_with fail
  refine (HM.out _ _ _).mono ?_
  rintro e w2 ⟨v2, rs, rfl, h2, hm2, hb2⟩
  obtain ⟨a2, n2, c2, hv2⟩ : ∃ a n c, v2 = .slice a n c := by
    obtain ⟨a, c, e, _⟩ := h2.sv
    exact ⟨a, _, c, e⟩
  subst hv2
  have H2 : Hid (Own w2 (w.heap.size + 1 + 1 + 1) (.slice a2 n2 c2) rs) := show Own w2 (w.heap.size + 1 + 1 + 1) (.slice a2 n2 c2) rs by simpa using h2
  have HM2 : Hid (Made 18446744073709551615 (fun a b => a || b) s t rs) := hm2
  have HB2 : Hid (Below (((w.alloc (Obj.cells #[vs] 90)).alloc (Obj.cells #[vt] 90)).alloc (Obj.cells #[Value.slice none 0 0] 90)).heap.size (((w.alloc (Obj.cells #[vs] 90)).alloc (Obj.cells #[vt] 90)).alloc (Obj.cells #[Value.slice none 0 0] 90)) w2) := hb2
  obtain ⟨hce, hfe⟩ : w2.cell? ⟨w.heap.size + 1 + 1, 0, none⟩ = some (.slice none 0 0) ∧ w2.frozen? ⟨w.heap.size + 1 + 1, 0, none⟩ = false := third_cell hb2
  clear h2 hm2 hb2
  go_wp2_with fail
  have d0 := World.cell?_setCell_same' w2 ⟨w.heap.size + 1 + 1, 0, none⟩ (.slice a2 n2 c2) (by rw [hce]; rfl)
  refine bodyPost_ret (v := .agg #[.slice a2 n2 c2]) (by simp [results, Tryz.results84, go_sem, d0]) rfl ?_
  exact ⟨_, rs, rfl, (H2.out.low (by omega) _ _).lower (by omega), HM2.out, ((HB.out _ _ _).trans (HB2.out.mono (HB.out _ _ _).size)).setCell (p := ⟨w.heap.size + 1 + 1, 0, none⟩) (by show w.heap.size ≤ w.heap.size + 1 + 1; omega) _⟩

set_option maxHeartbeats 1000000 in
theorem less_any {w : World} {vs vt : Value} {s t : List Sp} (hs : SV w vs s) (ht : SV w vt t) (cs : Canon 18446744073709551615 s) (ct : Canon 18446744073709551615 t) (hl : s.length + t.length ≤ 274877906944) :
    Calls Tryz.prog 105 #[.agg #[vs], .agg #[vt]] w (SetPost w (Made 18446744073709551615 (fun a b => a && !b) s t)) := by
  have HB : Hid (∀ a b c, Below w.heap.size w (((w.alloc a).alloc b).alloc c)) := fun a b c => (((Below.refl _ _).alloc (Nat.le_refl _) _).alloc (by simp) _).alloc (by simp; omega) _
  have HM : Hid (∀ a b c, Calls Tryz.prog 92 #[.agg #[vs], .agg #[vt], .func (.func 114) #[] #[]] (((w.alloc a).alloc b).alloc c) (SetPost (((w.alloc a).alloc b).alloc c) (Made 18446744073709551615 (fun a b => a && !b) s t))) :=
    fun a b c => merge_any (enters_of Tryz.func114 (by kernel_rfl) rfl) less1 (hs.below (HB.out a b c) (Nat.le_refl _)) (ht.below (HB.out a b c) (Nat.le_refl _)) cs ct hl
  clear hs ht cs ct hl
  go_enter Tryz.func105, Tryz.ntmps105
  go_wp2_with fail
  refine (HM.out _ _ _).mono ?_
  rintro e w2 ⟨v2, rs, rfl, h2, hm2, hb2⟩
  obtain ⟨a2, n2, c2, hv2⟩ : ∃ a n c, v2 = .slice a n c := by
    obtain ⟨a, c, e, _⟩ := h2.sv
    exact ⟨a, _, c, e⟩
  subst hv2
  have H2 : Hid (Own w2 (w.heap.size + 1 + 1 + 1) (.slice a2 n2 c2) rs) := show Own w2 (w.heap.size + 1 + 1 + 1) (.slice a2 n2 c2) rs by simpa using h2
  have HM2 : Hid (Made 18446744073709551615 (fun a b => a && !b) s t rs) := hm2
  have HB2 : Hid (Below (((w.alloc (Obj.cells #[vs] 90)).alloc (Obj.cells #[vt] 90)).alloc (Obj.cells #[Value.slice none 0 0] 90)).heap.size (((w.alloc (Obj.cells #[vs] 90)).alloc (Obj.cells #[vt] 90)).alloc (Obj.cells #[Value.slice none 0 0] 90)) w2) := hb2
  obtain ⟨hce, hfe⟩ : w2.cell? ⟨w.heap.size + 1 + 1, 0, none⟩ = some (.slice none 0 0) ∧ w2.frozen? ⟨w.heap.size + 1 + 1, 0, none⟩ = false := third_cell hb2
  clear h2 hm2 hb2
  go_wp2_with fail
  have d0 := World.cell?_setCell_same' w2 ⟨w.heap.size + 1 + 1, 0, none⟩ (.slice a2 n2 c2) (by rw [hce]; rfl)
  refine bodyPost_ret (v := .agg #[.slice a2 n2 c2]) (by simp [results, Tryz.results105, go_sem, d0]) rfl ?_
  exact ⟨_, rs, rfl, (H2.out.low (by omega) _ _).lower (by omega), HM2.out, ((HB.out _ _ _).trans (HB2.out.mono (HB.out _ _ _).size)).setCell (p := ⟨w.heap.size + 1 + 1, 0, none⟩) (by show w.heap.size ≤ w.heap.size + 1 + 1; omega) _⟩
end Go.Proofs.YtlplbbnicfeoaaaGreat.U64
