/- fewest: the points of a row of spans. Own work. -/
import Derived.Test.YtogcpogoamoljaaSpMark
import Derived.Test.YtogcpogoamoljaaSpSameU8
import Derived.Test.YtogcpogoamoljaaSpSizeU8
import Derived.Test.YtogcpogoamoljaaSpFitM
import Derived.Test.YtogcpogoamoljaaSpEq
import Derived.Test.YtogcpogoamoljaaSpArg
import Derived.Deep.DeepCutAuto
import Derived.Deep.CutBlock
import Derived.Deep.QuietTactic
namespace Go.Proofs.Ytogcpogoamoljaa
open Go.RowKit Go.Shelf Go.Proofs.Ytogcpogoamoljaa.Sp Go.Proofs.Ytogcpogoamoljaa.U8
/-- the points of a row -/
def inF (xs : List Sp) : Nat → Bool := fun q => xs.any fun x => decide (x.1 ≤ (q : Int)) && decide ((q : Int) ≤ x.2)
theorem inF_iff (xs : List Sp) (q : Nat) : inF xs q = true ↔ In q xs := by
  simp [inF, In]
theorem inF_append (xs ys : List Sp) (q : Nat) : inF (xs ++ ys) q = (inF xs q || inF ys q) := by simp [inF]
theorem inF_one (x : Sp) (q : Nat) : inF [x] q = (decide (x.1 ≤ (q : Int)) && decide ((q : Int) ≤ x.2)) := by simp [inF]
theorem bdn {B : Nat} {a w : World} (h : Below B a w) (n : Nat) : Below B a (w.drewN n) := h.trans ⟨rfl, rfl, rfl, Nat.le_refl _, fun _ _ => rfl⟩
theorem wrapN {j : Nat} (h : j ≤ 1000) : IntKind.i64.wrap (j : Int) = (j : Int) := wrap_i64 (by omega) (by omega)
set_option maxHeartbeats 1000000 in
set_option maxRecDepth 2000 in
theorem fewest_any {f : Nat → Bool} {xs : List Sp} {v : Value} {w : World} (hv : SV w v xs) (hc : Canon 255 xs) (hx : ∀ q : Nat, q < 256 → (f q = true ↔ In q xs)) :
    Calls Try.prog 24 #[v, .agg (ptsV f)] w fun e w' => e = .returned (.bool true) ∧ Below w.heap.size w w' := by
  have HV : Hid (SV w v xs) := hv
  have HC : Hid (Canon 255 xs) := hc
  have HX : Hid (∀ q : Nat, q < 256 → (f q = true ↔ In q xs)) := hx
  obtain ⟨ao, cap, rfl, h1, h2, h3, h4, h5⟩ := hv
  unfold maxLen at h2
  have hz := pts_zero.1
  obtain ⟨N, hN⟩ : ∃ N, xs.length = N := ⟨_, rfl⟩
  have HN : Hid (xs.length = N) := hN
  rw [hN] at HV h1 ⊢
  have hN2 : N ≤ 256 := by have := canon_length HC.out (by omega); omega
  clear h3 h4 h5 hc hx hN
  go_enter Try.func24, Try.ntmps24
  go_wp2_with fail
  obtain ⟨W0, hW0⟩ : ∃ W0, (w.alloc (Obj.cells (ptsV f) 33)).alloc (Obj.cells (ptsV fun _ => false) 33) = W0 := ⟨_, rfl⟩
  have HP0 : Hid (PtsAt W0 w.heap.size f) := hW0 ▸ (PtsAt.new w f).alloc _
  have HQ0 : Hid (PtsAt W0 (w.heap.size + 1) (fun _ => false)) := show PtsAt W0 (w.heap.size + 1) (fun _ => false) by
    have := PtsAt.new (w.alloc (Obj.cells (ptsV f) 33)) (fun _ => false)
    rw [hW0] at this
    simpa using this
  have HB0 : Hid (Below w.heap.size w W0) := hW0 ▸ ((Below.refl _ _).alloc (Nat.le_refl _) _).alloc (by simp) _
  rw [hW0]
  clear hW0
  go_loopw [6] (fun i wr => ∃ k : Nat, k ≤ N ∧ i = .int .i64 (k : Int) ∧ Hid (PtsAt wr (w.heap.size + 1) (inF (xs.take k))) ∧ Hid (PtsAt wr w.heap.size f) ∧ Hid (Below w.heap.size w wr)) (fun i _ => N - (intOf i).toNat)
  case atStart => exact ⟨0, Nat.zero_le _, rfl, HQ0.out, HP0.out, HB0.out⟩
  case round =>
    obtain ⟨k, hk, rfl, HQ, HP, HB⟩ := hrel
    by_cases hlt : k < N
    · have hkx : k < xs.length := by rw [HN.out]; exact hlt
      have ki : (k : Int) < (N : Int) := by omega
      obtain ⟨ao', cap', e', _, _, _, _, h5⟩ := HV.out.below HB.out (Nat.le_refl _)
      obtain ⟨g, off, e2, c0, c1⟩ := h5 k hkx
      simp only [Value.slice.injEq] at e'
      obtain ⟨q1, q2, q3⟩ := e'
      clear q2
      subst q1
      subst q3
      subst e2
      have hxb := HC.out.1 _ (List.getElem_mem hkx)
      have HT : Hid (xs.take (k + 1) = xs.take k ++ [xs[k]]) := List.take_succ_eq_append_getElem hkx
      have hprev : ∀ j, j + 1 = k → ∃ z1 z2 : Int, wr.cell? ⟨g, off + j * 2 + 1, none⟩ = some (.int .u8 z2) ∧ 0 ≤ z2 ∧ z2 ≤ 255 ∧ z2 + 1 < xs[k].1 ∧ z1 = z1 := fun j hj => by
        have hjx : j < xs.length := by omega
        obtain ⟨g', off', e3, d0, d1⟩ := h5 j hjx
        cases e3
        have hb := HC.out.1 _ (List.getElem_mem hjx)
        exact ⟨0, _, d1, by omega, by omega, (List.pairwise_iff_getElem.1 HC.out.2) j k hjx hkx (by omega), rfl⟩
      obtain ⟨x, hx⟩ : ∃ x, x = xs[k] := ⟨_, rfl⟩
      rw [← hx] at c0 c1 hxb HT hprev
      have HGx : g < w.heap.size := by
        obtain ⟨ao', cap', e', _, _, _, _, h6⟩ := HV.out
        simp only [Value.slice.injEq] at e'
        obtain ⟨q1, _, _⟩ := e'
        obtain ⟨g', off', e3, d0, _⟩ := h6 k hkx
        rw [← q1] at e3
        cases e3
        exact World.block_lt_of_cell? w _ d0
      clear h5 hx hkx
      obtain ⟨x1, x2⟩ := x
      obtain ⟨m1, rfl⟩ : ∃ m : Nat, x1 = (m : Int) := ⟨x1.toNat, by simp only at hxb; omega⟩
      obtain ⟨m2, rfl⟩ : ∃ m : Nat, x2 = (m : Int) := ⟨x2.toNat, by simp only at hxb; omega⟩
      simp only at c0 c1 hxb hprev
      have d1 : decide ((m2 : Int) < (m1 : Int)) = false := decide_eq_false (by omega)
      have d1' : decide (m2 < m1) = false := decide_eq_false (by omega)
      go_upto_region 5 with fail
      go_cut [45] (fun y wx => y = .bool false ∧ ∃ nq, wx = wr.drewN nq)
      case first =>
        by_cases hk0 : k = 0
        · subst hk0
          simp only [Nat.zero_mul, Nat.add_zero] at c0 c1
          have N0 : (0 : Int) < (N : Int) := by omega
          have N1 : 0 < N := by omega
          clear ki hprev HT HQ
          go_quiet (fail)
          go_wp2_with fail
          go_meet
          exact ⟨rfl, _, rfl⟩
        · obtain ⟨j, hj⟩ : ∃ j, j + 1 = k := ⟨k - 1, by omega⟩
          obtain ⟨z1, z2, c2, z3, z4, z5, _⟩ := hprev j hj
          have hji : IntKind.i64.wrap ((k : Int) - 1) = (j : Int) := by
            rw [show (k : Int) - 1 = (j : Int) by omega]
            exact wrapN (by omega)
          have j1 : (j : Int) < (N : Int) := by omega
          have j2 : (0 : Int) ≤ (j : Int) := by omega
          have k1 : decide ((0 : Int) < (k : Int)) = true := decide_eq_true (by omega)
          have k2 : decide (0 < k) = true := decide_eq_true (by omega)
          have hw2 : IntKind.i64.wrap (z2 + 1) = z2 + 1 := wrap_i64 (by omega) (by omega)
          have d2 : decide ((m1 : Int) ≤ z2 + 1) = false := decide_eq_false (by omega)
          clear hprev hj hk0
          go_quiet (fail)
          go_wp2_with fail
          go_meet
          exact ⟨rfl, _, rfl⟩
      case rest =>
        obtain ⟨rfl, nq, rfl⟩ := hcut
        clear hprev
        have HQn : Hid (PtsAt (wr.drewN nq) (w.heap.size + 1) (inF (xs.take k))) := HQ.out
        have HPn : Hid (PtsAt (wr.drewN nq) w.heap.size f) := HP.out
        have HBn : Hid (Below w.heap.size w (wr.drewN nq)) := bdn HB.out nq
        obtain ⟨Wn, hWn⟩ : ∃ Wn, wr.drewN nq = Wn := ⟨_, rfl⟩
        replace c0 : Wn.cell? ⟨g, off + k * 2, none⟩ = some (.int .u8 (m1 : Int)) := hWn ▸ c0
        replace c1 : Wn.cell? ⟨g, off + k * 2 + 1, none⟩ = some (.int .u8 (m2 : Int)) := hWn ▸ c1
        rw [hWn] at HQn HPn HBn ⊢
        clear hWn HQ HP HB
        have HGw : Hid (g < w.heap.size) := HGx
        have HC1 : Hid (Wn.cell? ⟨g, off + k * 2 + 1, none⟩ = some (.int .u8 (m2 : Int))) := c1
        go_wp2_with fail
        clear c0 c1
        go_loopw [7] (fun i wx => ∃ p : Nat, m1 ≤ p ∧ p ≤ m2 + 1 ∧ i = .int .i64 (p : Int) ∧ Hid (PtsAt wx (w.heap.size + 1) (markN (inF (xs.take k)) m1 p true)) ∧ Hid (PtsAt wx w.heap.size f) ∧ Hid (Below w.heap.size Wn wx)) (fun i _ => m2 + 1 - (intOf i).toNat)
        case atStart => exact ⟨m1, Nat.le_refl _, by omega, rfl, HQn.out.ext (fun i _ => by simp only [markN]; rw [if_neg (by omega)]), HPn.out, Below.refl _ _⟩
        case round =>
          obtain ⟨p, hp1, hp2, rfl, HQ, HP, HB⟩ := hrel
          have c1 : wr.cell? ⟨g, off + k * 2 + 1, none⟩ = some (.int .u8 (m2 : Int)) := (HB.out.cell (p := ⟨g, off + k * 2 + 1, none⟩) HGw.out).trans HC1.out
          by_cases hpm : p ≤ m2
          · have hd : decide ((p : Int) ≤ (m2 : Int)) = true := decide_eq_true (by omega)
            have p256 : (p : Int) < 256 := by omega
            have hf := HQ.out.free p
            have hc := HQ.out.cell (p := p) (by omega)
            have HQ' : Hid (PtsAt (wr.setCell ⟨w.heap.size + 1, p, none⟩ (.bool true)) (w.heap.size + 1) (markN (inF (xs.take k)) m1 (p + 1) true)) := (HQ.out.set (by omega) true).ext (fun i _ => by
              simp only [setF, markN]
              by_cases e : i = p
              · rw [if_pos e, if_pos (by omega)]
              · rw [if_neg e]
                by_cases e2 : m1 ≤ i ∧ i < p
                · rw [if_pos e2, if_pos (by omega)]
                · rw [if_neg e2, if_neg (by omega)])
            have HP' : Hid (PtsAt (wr.setCell ⟨w.heap.size + 1, p, none⟩ (.bool true)) w.heap.size f) := HP.out.other (by omega)
            have HB' : Hid (Below w.heap.size Wn (wr.setCell ⟨w.heap.size + 1, p, none⟩ (.bool true))) := HB.out.setCell (p := ⟨w.heap.size + 1, p, none⟩) (by show w.heap.size ≤ w.heap.size + 1; omega) _
            go_wp2_with fail
            go_roundw
            case rel => exact ⟨p + 1, by omega, by omega, by go_num, HQ'.out, HP'.out, HB'.out⟩
            case measure => simp [intOf]; omega
          · have hd : decide ((p : Int) ≤ (m2 : Int)) = false := decide_eq_false (by omega)
            have HQ' : Hid (PtsAt wr (w.heap.size + 1) (inF (xs.take (k + 1)))) := HQ.out.ext (fun i _ => by
              rw [HT.out, inF_append, inF_one]
              simp only [markN]
              by_cases e : m1 ≤ i ∧ i < p
              · rw [if_pos e]
                have h1 : decide ((m1 : Int) ≤ (i : Int)) = true := decide_eq_true (by omega)
                have h2 : decide ((i : Int) ≤ (m2 : Int)) = true := decide_eq_true (by omega)
                rw [show (decide (((m1 : Int), (m2 : Int)).1 ≤ (i : Int)) && decide ((i : Int) ≤ ((m1 : Int), (m2 : Int)).2)) = true by simp only [h1, h2, Bool.and_self], Bool.or_true]
              · rw [if_neg e]
                have h1 : (decide ((m1 : Int) ≤ (i : Int)) && decide ((i : Int) ≤ (m2 : Int))) = false := by
                  simp only [Bool.and_eq_false_iff, decide_eq_false_iff_not]
                  omega
                rw [show (decide (((m1 : Int), (m2 : Int)).1 ≤ (i : Int)) && decide ((i : Int) ≤ ((m1 : Int), (m2 : Int)).2)) = false from h1, Bool.or_false])
            go_wp2_with fail
            go_roundw
            case rel => exact ⟨k + 1, by omega, by go_num, HQ'.out, HP.out, HBn.out.trans HB.out⟩
            case measure => simp [intOf]; omega
    · obtain rfl : k = N := by omega
      have hfe : PtsAt wr (w.heap.size + 1) f := HQ.out.ext (fun i hi => by
        rw [← HN.out, List.take_length]
        have h1 := inF_iff xs i
        have h2 := HX.out i hi
        cases ha : inF xs i <;> cases hb : f i <;> simp_all)
      have HQ' : Hid (PtsAt wr (w.heap.size + 1) f) := hfe
      have heq : ∀ w', (Op.equalIn 10000 33 (.agg (ptsV f)) (.agg (ptsV f))).run Try.prog w' = .ok true w' := fun w' => by rw [pts_equal, (allF_iff f f).2 (fun _ _ => rfl)]
      clear hfe
      go_wp2_with (first | (refine wpList_load_pts (b := w.heap.size + 1) (f := f) (by rfl) (.tmp 5) (by rfl) (by rfl) (by exact HQ'.out) ?_) | (refine wpList_load_pts (b := w.heap.size) (f := f) (by rfl) (.tmp 3) (by rfl) (by rfl) (by exact HP.out) ?_))
      go_ret
      exact ⟨rfl, HB.out⟩
end Go.Proofs.Ytogcpogoamoljaa
