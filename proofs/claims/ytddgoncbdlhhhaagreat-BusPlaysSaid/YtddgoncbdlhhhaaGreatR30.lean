import Derived.Test.YtddgoncbdlhhhaaGreatR23
import Derived.Deep.DeepCutAuto
import Derived.Deep.CutBlock
import Derived.Test.YtddgoncbdlhhhaaGreatR06
import Derived.Test.YtddgoncbdlhhhaaGreatR15
/- The document's own Kept. Own work. -/
namespace Go.Proofs.YtddgoncbdlhhhaaGreat
open Go.RowKit Go.Maps Go.Proofs.YtddgoncbdlhhhaaGreat.Sp Wk
theorem cntN_list (M : Nat → Nat) : ∀ (n : Nat) (l : List Nat), l.Nodup → (∀ k ∈ l, k < n) → (∀ k, k < n → nz M k = true → k ∈ l) → cntN M n = l.countP (nz M)
  | 0, l, _, h, _ => by
    cases l with
    | nil => rfl
    | cons a l => have := h a (List.mem_cons_self ..); omega
  | n + 1, l, hn, hl, ha => by
    unfold cntN
    by_cases hm : n ∈ l
    · have hp := List.perm_cons_erase hm
      rw [hp.countP_eq (nz M), List.countP_cons, ← cntN_list M n (l.erase n) (hn.erase n) (fun k hk => ?_) (fun k hk hz => ?_)]
      · have := hl k (List.mem_of_mem_erase hk)
        have hne : k ≠ n := fun e => by
          rw [e] at hk
          exact hn.not_mem_erase hk
        omega
      · exact (List.mem_erase_of_ne (by omega)).2 (ha k (by omega) hz)
    · have hz : nz M n = false := by
        cases e : nz M n with
        | false => rfl
        | true => exact absurd (ha n (by omega) e) hm
      rw [hz, cntN_list M n l hn (fun k hk => ?_) (fun k hk hz => ha k (by omega) hz)]
      · rfl
      · have := hl k hk
        have hne : k ≠ n := fun e => hm (e ▸ hk)
        omega
theorem countP_num (f : Nat → Bool) (ps : List (Int × Nat)) : ps.countP (fun x => f x.1.toNat) = (ps.map fun x => x.1.toNat).countP f := by
  rw [List.countP_map]
  rfl
theorem cnt_pages {M : Nat → Nat} {ps : List (Int × Nat)} (hp : Pn ps) (hb : ∀ x ∈ ps, x.1 < 1048576) (hz : ∀ p, (∀ x ∈ ps, x.1 ≠ ((p / 4096 : Nat) : Int)) → M p = 0) : ∀ n, n = pagesN → ps.countP (fun x => nz M x.1.toNat) = cntN M n := by
  intro n hn
  have hn2 : (n : Int) = 1048576 := by rw [hn]; rfl
  clear hn
  refine (countP_num (nz M) ps).trans (cntN_list M n (ps.map fun x => x.1.toNat) ?_ (fun k hk => ?_) (fun k _ hk => ?_)).symm
  · have h1 := hp.1
    rw [List.nodup_iff_pairwise_ne] at h1 ⊢
    rw [List.pairwise_map] at h1 ⊢
    refine h1.imp_of_mem (fun {x y} hx hy hxy e => hxy ?_)
    have := hp.2 x hx
    have := hp.2 y hy
    omega
  · obtain ⟨x, hx, rfl⟩ := List.mem_map.1 hk
    have := hp.2 x hx
    have := hb x hx
    omega
  · by_cases h : ∃ x ∈ ps, x.1 = (k : Int)
    · obtain ⟨x, hx, e⟩ := h
      exact List.mem_map.2 ⟨x, hx, by rw [e]; rfl⟩
    · have : nz M k = false := nz_false.2 (fun i hi => hz _ (fun x hx e => h ⟨x, hx, by rw [show (k * 4096 + i) / 4096 = k by omega] at e; exact e⟩))
      rw [this] at hk
      cases hk
/-- is one of a page's first bytes not 0? -/
def nzTo (M : Nat → Nat) (k j : Nat) : Bool := ((pageOf M k).take j).any fun z => z != 0
theorem nzTo_zero (M : Nat → Nat) (k : Nat) : nzTo M k 0 = false := rfl
theorem nzTo_all (M : Nat → Nat) (k : Nat) : nzTo M k 4096 = nz M k := by
  unfold nzTo nz
  rw [List.take_of_length_le (by rw [pageOf_length]; exact Nat.le_refl _)]
theorem nzTo_succ (M : Nat → Nat) (k j : Nat) (h : j < 4096) : nzTo M k (j + 1) = (nzTo M k j || (M (k * 4096 + j) != 0)) := by
  unfold nzTo
  rw [List.take_add_one, pageOf_get M k j h, List.any_append]
  simp
theorem countP_step {f : Int × Nat → Bool} {ps : List (Int × Nat)} {i : Nat} (h : i < ps.length) : (ps.take (i + 1)).countP f = (ps.take i).countP f + if f ps[i] then 1 else 0 := by
  rw [List.take_succ_eq_append_getElem h, List.countP_append]
  simp [List.countP_cons]
set_option maxRecDepth 100000 in
set_option maxHeartbeats 4000000 in
theorem rkept_at {w : World} {base v : Nat} {vr vd vp : Value} {ps : List (Int × Nat)} {M : Nat → Nat} {L S X : Nat} (h : RM w base v vr vd vp ps M L S X) :
    Calls Tryz.prog 32 #[.pointer (some ⟨v, 0, none⟩)] w fun e w' => e = .returned (.int .i64 (ps.countP (fun x => nz M x.1.toNat) : Int)) ∧ w' = w := by
  have HR := Lib.hid h
  obtain ⟨c0, c1, c2, _⟩ := h.2.1.cells
  obtain ⟨a1, cc, hvp, hc1, hc2, _⟩ := h.2.2.1.form
  obtain ⟨N, hN⟩ : ∃ N, N = ps.length := ⟨_, rfl⟩
  have HN := Lib.hid hN
  have hnl : N ≤ 2097153 := by rw [hN]; exact h.pn.len
  rw [← hN] at hvp hc1
  obtain ⟨f, hf⟩ : ∃ f : Int × Nat → Bool, f = fun x => nz M x.1.toNat := ⟨_, rfl⟩
  have HF := Lib.hid hf
  rw [← hf]
  unfold maxLen at hc2
  subst hvp
  clear h hN hf c0 c1
  go_enter Tryz.func32, Tryz.ntmps32
  go_wp2_with fail
  go_loopw [3, 4] (fun nv iv wr => ∃ i c : Nat, i ≤ N ∧ nv = .int .i64 (c : Int) ∧ iv = .int .i64 (i : Int) ∧ c ≤ i ∧ Hid (c = (ps.take i).countP f) ∧ wr = w) (fun _ iv _ => N - (intOf iv).toNat)
  case atStart => exact ⟨0, 0, Nat.zero_le _, rfl, rfl, Nat.le_refl _, rfl, rfl⟩
  case round =>
    obtain ⟨i, c, hi, rfl, rfl, hci, HC, rfl⟩ := hrel
    by_cases hlt : i < N
    · have qi : (i : Int) < (N : Int) := by omega
      have hil : i < ps.length := by rw [← HN.out]; exact hlt
      obtain ⟨g, hal, d0, cq, d1⟩ := HR.out.2.2.1.cell i hil
      subst hal
      obtain ⟨x, hx⟩ : ∃ x, x = ps[i] := ⟨_, rfl⟩
      have HX := Lib.hid hx
      have HP := Lib.hid (HR.out.2.2.2.1 _ (List.getElem_mem hil)).2
      rw [← hx] at d0 d1 HP
      obtain ⟨gp, hgp⟩ : ∃ gp, gp = x.2 := ⟨_, rfl⟩
      rw [← hgp] at d1 HP
      obtain ⟨pg, hpg⟩ : ∃ pg, pg = x.1.toNat := ⟨_, rfl⟩
      have HPg := Lib.hid hpg
      rw [← hpg] at HP
      clear hx hgp hpg d0
      go_wp2_with fail
      go_loopw [5, 6] (fun sv jv wq => ∃ j : Nat, j ≤ 4096 ∧ sv = .bool (nzTo M pg j) ∧ jv = .int .i64 (j : Int) ∧ wq = wr) (fun _ jv _ => 4096 - (intOf jv).toNat)
      case atStart => exact ⟨0, by omega, by rw [nzTo_zero], rfl, rfl⟩
      case round =>
        obtain ⟨j, hj, rfl, rfl, rfl⟩ := hrel
        by_cases hjl : j < 4096
        · have HS := Lib.hid (nzTo_succ M pg j hjl)
          have y0 := HP.out.cell j hjl
          have qj : (j : Int) < 4096 := by omega
          generalize M (pg * 4096 + j) = z at HS y0
          generalize nzTo M pg j = b1 at HS
          cases b1 with
          | true =>
            go_wp2_with fail
            exact ⟨⟨j + 1, by omega, by rw [HS.out]; rfl, by go_num, trivial⟩, by simp [intOf]; omega⟩
          | false =>
            go_wp2_with fail
            exact ⟨⟨j + 1, by omega, by rw [HS.out, Bool.false_or, show ((z : Int) != 0) = (z != 0) by rw [Bool.eq_iff_iff]; simp], by go_num, trivial⟩, by simp [intOf]; omega⟩
        · obtain rfl : j = 4096 := by omega
          have HZ := Lib.hid (nzTo_all M pg)
          have HStp : Hid ((ps.take (i + 1)).countP f = c + if nzTo M pg 4096 then 1 else 0) := by
            show _ = _
            rw [countP_step hil, ← HC.out, nzTo_all, HPg.out, HX.out, HF.out]
          generalize nzTo M pg 4096 = b at HStp ⊢
          cases b with
          | true =>
            go_wp2_with fail
            exact ⟨⟨i + 1, c + 1, by omega, by go_num, by go_num, by omega, HStp.out.symm, trivial⟩, by simp [intOf]; omega⟩
          | false =>
            go_wp2_with fail
            exact ⟨⟨i + 1, c, by omega, rfl, by go_num, by omega, HStp.out.symm, trivial⟩, by simp [intOf]; omega⟩
    · obtain rfl : i = N := by omega
      go_wp2_with fail
      go_ret
      refine ⟨?_, rfl⟩
      rw [HC.out, List.take_of_length_le (by rw [← HN.out]; exact Nat.le_refl _)]
      rfl
end Go.Proofs.YtddgoncbdlhhhaaGreat
/- spot and Where: in which range an address lies. Own work. -/
namespace Go.Proofs.YtddgoncbdlhhhaaGreat
open Go.RowKit Go.Maps Go.Proofs.YtddgoncbdlhhhaaGreat.Sp
def spotFrom (a : Int) (i : Nat) : List Sp → Option (Nat × Int)
  | [] => none
  | r :: rs => if r.1 ≤ a ∧ a < r.1 + r.2 then some (i, a - r.1) else spotFrom a (i + 1) rs
def spotV (kind : Int) : Option (Nat × Int) → Value
  | none => .tuple #[.agg #[.int .i64 0, .int .i64 0, .int .u64 0], .bool false]
  | some (i, o) => .tuple #[.agg #[.int .i64 kind, .int .i64 (i : Int), .int .u64 o], .bool true]
theorem spotFrom_step {a : Int} {rs : List Sp} {k : Nat} (h : k < rs.length) : spotFrom a k (rs.drop k) = if rs[k].1 ≤ a ∧ a < rs[k].1 + rs[k].2 then some (k, a - rs[k].1) else spotFrom a (k + 1) (rs.drop (k + 1)) := by
  rw [List.drop_eq_getElem_cons h, spotFrom]
def Box3 (w : World) (b : Nat) (x y z : Value) : Prop := w.heap[b]? = some (.cells #[x, y, z] 131 (0, 0))
theorem Box3.cells {w : World} {b : Nat} {x y z : Value} (h : Box3 w b x y z) : w.cell? ⟨b, 0, none⟩ = some x ∧ w.cell? ⟨b, 1, none⟩ = some y ∧ w.cell? ⟨b, 2, none⟩ = some z ∧ w.frozen? ⟨b, 0, none⟩ = false ∧ w.frozen? ⟨b, 1, none⟩ = false ∧ w.frozen? ⟨b, 2, none⟩ = false := by
  refine ⟨?_, ?_, ?_, by simp [World.frozen?, show w.heap[b]? = _ from h], by simp [World.frozen?, show w.heap[b]? = _ from h], by simp [World.frozen?, show w.heap[b]? = _ from h]⟩ <;> rw [cell_of_row w b _ _ _ _ h] <;> rfl
theorem Box3.set {w : World} {b : Nat} {x y z : Value} (h : Box3 w b x y z) (x' y' z' : Value) : Box3 (((w.setCell ⟨b, 0, none⟩ x').setCell ⟨b, 1, none⟩ y').setCell ⟨b, 2, none⟩ z') b x' y' z' := by
  have h' : w.heap[b]? = _ := h
  simp [Box3, World.setCell, Array.getElem?_modify, h']
set_option maxRecDepth 100000 in
set_option maxHeartbeats 2000000 in
theorem spot_any {w : World} {v : Value} {rs : List Sp} {a kind : Int} (hv : U64.SV w v rs) (hf : Fits 18446744073709551615 rs) (ha : 0 ≤ a ∧ a ≤ 18446744073709551615) :
    Calls Tryz.prog 91 #[.int .i64 kind, v, .int .u64 a] w fun e w' => e = .returned (spotV kind (spotFrom a 0 rs)) ∧ Below w.heap.size w w' := by
  have HV : Hid (U64.SV w v rs) := hv
  obtain ⟨ao, cap, rfl, h1, h2, h3, h4, h5⟩ := hv
  have HF : Hid (Fits 18446744073709551615 rs) := hf
  have HA : Hid (0 ≤ a ∧ a ≤ 18446744073709551615) := ha
  unfold maxLen at h2
  clear h3 h4 h5 hf
  go_enter Tryz.func91, Tryz.ntmps91
  go_wp2_with fail
  obtain ⟨W0, hW0⟩ : ∃ W0, w.alloc (Obj.cells #[.int .i64 0, .int .i64 0, .int .u64 0] 131) = W0 := ⟨_, rfl⟩
  have HB0 : Hid (Below w.heap.size w W0) := hW0 ▸ (Below.refl _ _).alloc (Nat.le_refl _) _
  have HZ0 : Hid (W0.heap.size = w.heap.size + 1) := by show _ = _; rw [← hW0]; simp
  have HX0 : Hid (Box3 W0 w.heap.size (.int .i64 0) (.int .i64 0) (.int .u64 0)) := by rw [← hW0]; exact heap_alloc_new w _
  rw [hW0]
  clear hW0
  go_loopw [14] (fun i wr => ∃ k : Nat, k ≤ rs.length ∧ i = .int .i64 (k : Int) ∧ Hid (Below W0.heap.size W0 wr) ∧ Hid (spotFrom a 0 rs = spotFrom a k (rs.drop k))) (fun i _ => rs.length - (intOf i).toNat)
  case atStart => exact ⟨0, Nat.zero_le _, rfl, Below.refl _ _, (rfl : _ = _)⟩
  case round =>
    obtain ⟨k, hk, rfl, HB, HS⟩ := hrel
    have hx3 := Box3.cells ((HB.out.block w.heap.size (by rw [HZ0.out]; omega)).trans HX0.out)
    obtain ⟨x0, x1, x2, f0, f1, f2⟩ := hx3
    have HX3 : Hid (Box3 wr w.heap.size (.int .i64 0) (.int .i64 0) (.int .u64 0)) := ((HB.out.block w.heap.size (by rw [HZ0.out]; omega)).trans HX0.out)
    have hxa := fun X : Obj => Box3.cells (w := wr.alloc X) ((Below.heap_alloc wr X w.heap.size (World.block_lt_of_cell? wr _ x0)).trans HX3.out)
    have y0 := fun X => (hxa X).1
    have y1 := fun X => (hxa X).2.1
    have y2 := fun X => (hxa X).2.2.1
    have y3 := fun X => (hxa X).2.2.2.1
    have y4 := fun X => (hxa X).2.2.2.2.1
    have y5 := fun X => (hxa X).2.2.2.2.2
    clear hxa
    by_cases hlt : k < rs.length
    · obtain ⟨ao', cap', e, _, _, _, _, h5⟩ := (HV.out.below HB0.out (Nat.le_refl _)).below HB.out (Nat.le_refl _)
      cases e
      obtain ⟨g, off, rfl, d0, d1⟩ := h5 k hlt
      clear h5
      have hb := HF.out rs[k] (List.getElem_mem _)
      have HSt : Hid (spotFrom a 0 rs = if rs[k].1 ≤ a ∧ a < rs[k].1 + rs[k].2 then some (k, a - rs[k].1) else spotFrom a (k + 1) (rs.drop (k + 1))) := by rw [HS.out]; exact spotFrom_step hlt
      have HBn : Hid (∀ X, Below W0.heap.size W0 (wr.alloc X)) := fun X => HB.out.alloc HB.out.size X
      obtain ⟨x, hx⟩ : ∃ x, x = rs[k] := ⟨_, rfl⟩
      rw [← hx] at d0 d1 hb HSt
      have HSub : Hid (∀ W, Calls Tryz.prog 103 #[.int .u64 a, .int .u64 x.1] W fun e w' => e = .returned (.tuple #[.int .u64 (subB a x.1).1, .bool (subB a x.1).2]) ∧ w' = W) := fun W => sub_any HA.out ⟨hb.1, hb.2.1⟩ W
      clear hx
      by_cases h6 : a < x.1
      · have hs : subB a x.1 = (0, false) := if_pos h6
        rw [hs] at HSub
        have HN : Hid (spotFrom a 0 rs = spotFrom a (k + 1) (rs.drop (k + 1))) := by have := HSt.out; rwa [if_neg (by omega)] at this
        clear hs
        go_wp2_with (first | (go_at_call 103; refine (HSub.out _).mono ?_; rintro e w' ⟨rfl, rfl⟩))
        go_roundw
        case rel => exact ⟨k + 1, by omega, by go_num, HBn.out _, HN⟩
        case measure => simp [intOf]; omega
      · have hs : subB a x.1 = (a - x.1, true) := if_neg h6
        rw [hs] at HSub
        clear hs
        by_cases h7 : a - x.1 < x.2
        · have HN : Hid (spotFrom a 0 rs = some (k, a - x.1)) := by have := HSt.out; rwa [if_pos (by omega)] at this
          go_wp2_with (first | (go_at_call 103; refine (HSub.out _).mono ?_; rintro e w' ⟨rfl, rfl⟩))
          obtain ⟨d0, d1, d2, _⟩ := Box3.cells (Box3.set (w := wr.alloc (.cells #[.int .u64 x.1, .int .u64 x.2] 55)) ((Below.heap_alloc wr _ w.heap.size (World.block_lt_of_cell? wr _ x0)).trans HX3.out) (.int .i64 kind) (.int .i64 (k : Int)) (.int .u64 (a - x.1)))
          refine bodyPost_ret (v := .tuple #[.agg #[.int .i64 kind, .int .i64 (k : Int), .int .u64 (a - x.1)], .bool true]) (by simp [results, Tryz.results91, go_sem, d0, d1, d2]) rfl ?_
          have hsz := HB0.out.size
          exact ⟨by rw [HN.out]; rfl, HB0.out.trans (((((HBn.out _).mono hsz).setCell (p := ⟨w.heap.size, 0, none⟩) (Nat.le_refl _) _).setCell (p := ⟨w.heap.size, 1, none⟩) (Nat.le_refl _) _).setCell (p := ⟨w.heap.size, 2, none⟩) (Nat.le_refl _) _)⟩
        · have HN : Hid (spotFrom a 0 rs = spotFrom a (k + 1) (rs.drop (k + 1))) := by have := HSt.out; rwa [if_neg (by omega)] at this
          go_wp2_with (first | (go_at_call 103; refine (HSub.out _).mono ?_; rintro e w' ⟨rfl, rfl⟩))
          go_roundw
          case rel => exact ⟨k + 1, by omega, by go_num, HBn.out _, HN⟩
          case measure => simp [intOf]; omega
    · have HE : Hid (spotFrom a 0 rs = none) := by rw [HS.out, List.drop_of_length_le (by omega)]; exact (rfl : _ = _)
      go_wp2_with fail
      obtain ⟨d0, d1, d2, _⟩ := Box3.cells (Box3.set HX3.out (.int .i64 0) (.int .i64 0) (.int .u64 0))
      refine bodyPost_ret (v := .tuple #[.agg #[.int .i64 0, .int .i64 0, .int .u64 0], .bool false]) (by simp [results, Tryz.results91, go_sem, d0, d1, d2]) rfl ?_
      have hsz := HB0.out.size
      exact ⟨by rw [HE.out]; rfl, HB0.out.trans ((((HB.out.mono hsz).setCell (p := ⟨w.heap.size, 0, none⟩) (Nat.le_refl _) _).setCell (p := ⟨w.heap.size, 1, none⟩) (Nat.le_refl _) _).setCell (p := ⟨w.heap.size, 2, none⟩) (Nat.le_refl _) _)⟩
end Go.Proofs.YtddgoncbdlhhhaaGreat
/- Where. Own work. -/
namespace Go.Proofs.YtddgoncbdlhhhaaGreat
open Go.RowKit Go.Maps Go.Proofs.YtddgoncbdlhhhaaGreat.Sp
/-- what Where answers -/
def whereV (rs ds : List Sp) (a : Int) : Value :=
  match spotFrom a 0 rs with
  | some x => spotV 1 (some x)
  | none => spotV 2 (spotFrom a 0 ds)
theorem Sane.fits {rs : List Sp} (h : Sane rs) : Fits 18446744073709551615 rs := fun r hr => by
  obtain ⟨h1, h2, h3⟩ := h r hr
  omega
theorem Sane.left {rs ds : List Sp} (h : Sane (rs ++ ds)) : Sane rs := fun r hr => h r (List.mem_append_left _ hr)
theorem Sane.right {rs ds : List Sp} (h : Sane (rs ++ ds)) : Sane ds := fun r hr => h r (List.mem_append_right _ hr)
theorem spotV_form (kind : Int) (x : Option (Nat × Int)) : ∃ k i o b, spotV kind x = .tuple #[.agg #[.int .i64 k, .int .i64 i, .int .u64 o], .bool b] := by
  cases x with
  | none => exact ⟨0, 0, 0, false, rfl⟩
  | some x => exact ⟨_, _, _, _, rfl⟩
theorem Box3.more {w : World} {b : Nat} {x y z : Value} (h : Box3 w b x y z) (X : Obj) : Box3 (w.alloc X) b x y z := (Below.heap_alloc w X b (Array.getElem?_eq_some_iff.1 h).1).trans h
set_option maxRecDepth 100000 in
set_option maxHeartbeats 2000000 in
theorem where_any {w : World} {m B : Nat} {V : Value × Value × Value} {T : Nat → Option Nat} {M : Nat → Nat} {rs ds : List Sp} {L S X : Nat} {a : Int} (h : Mac w m B V T M rs ds L S X) (ha : 0 ≤ a ∧ a ≤ 18446744073709551615) :
    Calls Tryz.prog 62 #[.pointer (some ⟨m, 0, none⟩), .int .u64 a] w fun e w' => e = .returned (whereV rs ds a) ∧ Below w.heap.size w w' := by
  obtain ⟨vr, vd, vg⟩ := V
  obtain ⟨G, h0, h1, h2, h3, h4, h5, h6, h7, h8, h9, h10⟩ := h
  simp only at h0 h1 h2 h3
  have c3 : w.cell? ⟨m, 3, none⟩ = some vr := by rw [cell_of_row w m _ _ _ _ h0]; rfl
  have c4 : w.cell? ⟨m, 4, none⟩ = some vd := by rw [cell_of_row w m _ _ _ _ h0]; rfl
  have HC1 : Hid (∀ W, Below w.heap.size w W → Calls Tryz.prog 91 #[.int .i64 1, vr, .int .u64 a] W fun e w' => e = .returned (spotV 1 (spotFrom a 0 rs)) ∧ Below W.heap.size W w') := fun W hW => spot_any (h1.below hW (Nat.le_refl _)) h6.left.fits ha
  have HC2 : Hid (∀ W, Below w.heap.size w W → Calls Tryz.prog 91 #[.int .i64 2, vd, .int .u64 a] W fun e w' => e = .returned (spotV 2 (spotFrom a 0 ds)) ∧ Below W.heap.size W w') := fun W hW => spot_any (h2.below hW (Nat.le_refl _)) h6.right.fits ha
  clear h0 h1 h2 h3 h4 h5 h6 h7 h8 h9 h10
  have HC3 : Hid (∀ W, Below w.heap.size w W → W.cell? ⟨m, 3, none⟩ = some vr ∧ W.cell? ⟨m, 4, none⟩ = some vd) := fun W hW => ⟨by rw [hW.cell (World.block_lt_of_cell? w _ c3)]; exact c3, by rw [hW.cell (World.block_lt_of_cell? w _ c4)]; exact c4⟩
  have e3 := fun X => U64.cell_alloc' X c3
  have HB0 : Hid (∀ X, Below w.heap.size w (w.alloc X)) := fun X => (Below.refl _ _).alloc (Nat.le_refl _) _
  have HX0 : Hid (Box3 (w.alloc (Obj.cells #[.int .i64 0, .int .i64 0, .int .u64 0] 131)) w.heap.size (.int .i64 0) (.int .i64 0) (.int .u64 0)) := heap_alloc_new w _
  clear c4
  cases hsp : spotFrom a 0 rs with
  | some x =>
    obtain ⟨i, o⟩ := x
    rw [hsp] at HC1
    have HE : Hid (whereV rs ds a = spotV 1 (some (i, o))) := by show _ = _; rw [whereV, hsp]
    clear hsp
    go_enter Tryz.func62, Tryz.ntmps62
    go_wp2_with fail
    refine (HC1.out _ (HB0.out _)).mono ?_
    rintro e w1 ⟨rfl, hb1⟩
    have HB1 : Hid (Below w.heap.size w w1) := (HB0.out _).trans (hb1.mono (by simp))
    have HX1 : Hid (Box3 w1 w.heap.size (.int .i64 0) (.int .i64 0) (.int .u64 0)) := (hb1.block w.heap.size (by simp)).trans HX0.out
    have y0 := fun X => (Box3.cells (HX1.out.more X)).1
    have y1 := fun X => (Box3.cells (HX1.out.more X)).2.1
    have y2 := fun X => (Box3.cells (HX1.out.more X)).2.2.1
    have y3 := fun X => (Box3.cells (HX1.out.more X)).2.2.2.1
    have y4 := fun X => (Box3.cells (HX1.out.more X)).2.2.2.2.1
    have y5 := fun X => (Box3.cells (HX1.out.more X)).2.2.2.2.2
    have e4 := fun X => U64.cell_alloc' X (HC3.out w1 HB1.out).2
    rw [spotV]
    clear hb1
    go_wp2_with fail
    obtain ⟨d0, d1, d2, _⟩ := Box3.cells (Box3.set (HX1.out.more (.cells #[.int .i64 1, .int .i64 (i : Int), .int .u64 o] 131)) (.int .i64 1) (.int .i64 (i : Int)) (.int .u64 o))
    refine bodyPost_ret (v := .tuple #[.agg #[.int .i64 1, .int .i64 (i : Int), .int .u64 o], .bool true]) (by simp [results, Tryz.results62, go_sem, d0, d1, d2]) rfl ?_
    exact ⟨by rw [HE.out]; rfl, (((HB1.out.alloc HB1.out.size _).setCell (p := ⟨w.heap.size, 0, none⟩) (Nat.le_refl _) _).setCell (p := ⟨w.heap.size, 1, none⟩) (Nat.le_refl _) _).setCell (p := ⟨w.heap.size, 2, none⟩) (Nat.le_refl _) _⟩
  | none =>
    rw [hsp] at HC1
    have HE : Hid (whereV rs ds a = spotV 2 (spotFrom a 0 ds)) := by show _ = _; rw [whereV, hsp]
    clear hsp
    go_enter Tryz.func62, Tryz.ntmps62
    go_wp2_with fail
    refine (HC1.out _ (HB0.out _)).mono ?_
    rintro e w1 ⟨rfl, hb1⟩
    have HB1 : Hid (Below w.heap.size w w1) := (HB0.out _).trans (hb1.mono (by simp))
    have HX1 : Hid (Box3 w1 w.heap.size (.int .i64 0) (.int .i64 0) (.int .u64 0)) := (hb1.block w.heap.size (by simp)).trans HX0.out
    have y0 := fun X => (Box3.cells (HX1.out.more X)).1
    have y1 := fun X => (Box3.cells (HX1.out.more X)).2.1
    have y2 := fun X => (Box3.cells (HX1.out.more X)).2.2.1
    have y3 := fun X => (Box3.cells (HX1.out.more X)).2.2.2.1
    have y4 := fun X => (Box3.cells (HX1.out.more X)).2.2.2.2.1
    have y5 := fun X => (Box3.cells (HX1.out.more X)).2.2.2.2.2
    have e4 := fun X => U64.cell_alloc' X (HC3.out w1 HB1.out).2
    rw [spotV]
    clear hb1
    go_wp2_with fail
    refine (HC2.out _ (HB1.out.alloc HB1.out.size _)).mono ?_
    rintro e w2 ⟨rfl, hb2⟩
    have HB2 : Hid (Below w.heap.size w w2) := (HB1.out.alloc HB1.out.size _).trans (hb2.mono (by have := HB1.out.size; simp; omega))
    have HX2 : Hid (Box3 w2 w.heap.size (.int .i64 0) (.int .i64 0) (.int .u64 0)) := (hb2.block w.heap.size (by have := World.block_lt_of_cell? _ _ (y0 (Obj.cells #[.int .i64 0, .int .i64 0, .int .u64 0] 131)); exact this)).trans (HX1.out.more _)
    obtain ⟨x0, x1, x2, f0, f1, f2⟩ := Box3.cells HX2.out
    obtain ⟨k, i, o, b, hV⟩ := spotV_form 2 (spotFrom a 0 ds)
    rw [hV]
    rw [hV] at HE
    clear hb2 hV y0 y1 y2 y3 y4 y5
    go_wp2_with fail
    obtain ⟨d0, d1, d2, _⟩ := Box3.cells (Box3.set HX2.out (.int .i64 k) (.int .i64 i) (.int .u64 o))
    refine bodyPost_ret (v := .tuple #[.agg #[.int .i64 k, .int .i64 i, .int .u64 o], .bool b]) (by simp [results, Tryz.results62, go_sem, d0, d1, d2]) rfl ?_
    exact ⟨by rw [HE.out], ((HB2.out.setCell (p := ⟨w.heap.size, 0, none⟩) (Nat.le_refl _) _).setCell (p := ⟨w.heap.size, 1, none⟩) (Nat.le_refl _) _).setCell (p := ⟨w.heap.size, 2, none⟩) (Nat.le_refl _) _⟩
end Go.Proofs.YtddgoncbdlhhhaaGreat
