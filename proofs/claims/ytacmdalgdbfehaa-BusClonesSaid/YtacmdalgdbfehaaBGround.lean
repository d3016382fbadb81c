/- the law's ground: a machine with some bytes laid. Own work. -/
import Derived.Test.YtacmdalgdbfehaaBNew
import Derived.Test.YtacmdalgdbfehaaBStore
import Derived.Test.YtacmdalgdbfehaaBReadM
namespace Go.Proofs.Ytacmdalgdbfehaa
open Go.RowKit Go.Maps Go.Proofs.Ytacmdalgdbfehaa.Sp
def rsG : List Sp := [(8192, 4096), (12288, 8192)]
def dsG : List Sp := [(20480, 4096)]
theorem on_g (p : Int) : On (rsG ++ dsG) p ↔ 8192 ≤ p ∧ p < 24576 := by
  unfold On rsG dsG
  constructor
  · rintro ⟨r, hr, h1, h2⟩
    simp at hr
    rcases hr with rfl | rfl | rfl <;> simp only at h1 h2 <;> omega
  · intro h
    by_cases h1 : p < 12288
    · exact ⟨(8192, 4096), by simp, by simp only; omega⟩
    · by_cases h2 : p < 20480
      · exact ⟨(12288, 8192), by simp, by simp only; omega⟩
      · exact ⟨(20480, 4096), by simp, by simp only; omega⟩
theorem off_yesG {a n : Nat} {x : Int} {b : Bool} (h : OffR (rsG ++ dsG) a n x b) (ha : 8192 ≤ a) (hn : a + n ≤ 24576) : b = false := by
  cases b with
  | false => rfl
  | true =>
    obtain ⟨i, h1, _, _, h4, _⟩ := h.1 rfl
    exact absurd ((on_g _).2 ⟨by omega, by omega⟩) h4
theorem stake_g1 : stakeW 18446744073709551615 [] rsG = 0 := by decide
theorem stake_g2 : stakeW 1048576 rsG dsG = 0 := by decide
theorem size_g (G : List Sp) (h : Ground G rsG) : tot G ≤ 67108864 := by
  have : G = [(8192, 20479)] := canon_ext h.1 ⟨fun x hx => by simp at hx; subst hx; simp, by simp⟩ (fun p => by
    rw [h.2.1 p, in_one]
    unfold On rsG
    constructor
    · rintro ⟨r, hr, h1, h2⟩
      simp at hr
      rcases hr with rfl | rfl <;> simp only at h1 h2 ⊢ <;> omega
    · intro h
      simp only at h
      by_cases h1 : p < 12288
      · exact ⟨(8192, 4096), by simp, by simp only; omega⟩
      · exact ⟨(12288, 8192), by simp, by simp only; omega⟩)
  rw [this]
  decide
def GroundPost (w : World) (e : Ending) (w' : World) : Prop := ∃ m B V T M S, e = .returned (.pointer (some ⟨m, 0, none⟩)) ∧ S ≤ 100 ∧ Below w.heap.size w w' ∧ Mac w' m B V T M rsG dsG 0 S 0 ∧ ∀ j, Mine m B V T j → w.heap.size ≤ j
theorem two_sv {W : World} {g : Nat} {x y : Sp} {t : TypeId} (h : W.heap[g]? = some (.cells #[.int .u64 x.1, .int .u64 x.2, .int .u64 y.1, .int .u64 y.2] t (0, 0))) : U64.SV W (.slice (some ⟨g, 0, none⟩) 2 2) [x, y] := by
  refine ⟨_, 2, rfl, by simp, by decide, by simp, fun a e => ⟨g, 0, (by cases e; rfl), (Array.getElem?_eq_some_iff.1 h).1⟩, fun j hj => ⟨g, 0, rfl, ?_⟩⟩
  have hj : j < 2 := hj
  obtain rfl | rfl : j = 0 ∨ j = 1 := by omega
  · exact ⟨by rw [cell_of_row W g _ _ _ _ h]; rfl, by rw [cell_of_row W g _ _ _ _ h]; rfl⟩
  · exact ⟨by rw [cell_of_row W g _ _ _ _ h]; rfl, by rw [cell_of_row W g _ _ _ _ h]; rfl⟩
theorem mine_grows {m B k : Nat} {V : Value × Value × Value} {T T' : Nat → Option Nat} {n : Nat} (h : ∀ j, Mine m B V T j → n ≤ j) (hg : Grows k T T') (hk : n ≤ k) : ∀ j, Mine m B V T' j → n ≤ j := by
  intro j hj
  rcases hj with rfl | (rfl | ⟨i, hi⟩) | ⟨v, hv, e⟩
  · exact h _ (.inl rfl)
  · exact h _ (.inr (.inl (.inl rfl)))
  · rcases hg i j hi with h5 | h5
    · exact h _ (.inr (.inl (.inr ⟨i, h5⟩)))
    · omega
  · exact h _ (.inr (.inr ⟨v, hv, e⟩))
theorem below_mine {w W w' : World} {Z : Nat → Prop} (h : Below w.heap.size w W) (hk : Keeps Z W w') (hz : ∀ j, Z j → w.heap.size ≤ j) : Below w.heap.size w w' :=
  ⟨hk.os.trans h.os, hk.tape.trans h.tape, hk.output.trans h.output, Nat.le_trans h.size hk.size, fun j hj => (hk.block j (Nat.lt_of_lt_of_le hj h.size) (fun hZ => by have := hz j hZ; omega)).trans (h.block j hj)⟩
set_option maxRecDepth 100000 in
set_option maxHeartbeats 8000000 in
theorem ground_any {w : World} {v : Value} {zs : List Nat} (hv : Sl w v zs) : Calls Try.prog 16 #[v] w (GroundPost w) := by
  have HV : Hid (Sl w v zs) := hv
  obtain ⟨ao, cap, rfl, h1, h2, _, _, _⟩ := hv
  have hbig : zs.length ≤ 9223372036854775807 := by unfold maxLen at h2; omega
  go_enter Try.func16, Try.ntmps16
  go_wp2_with fail
  obtain ⟨W0, hW0⟩ : ∃ W0, (w.alloc (Obj.cells #[.int .u64 8192, .int .u64 4096, .int .u64 12288, .int .u64 8192] 31)).alloc (Obj.cells #[.int .u64 20480, .int .u64 4096] 31) = W0 := ⟨_, rfl⟩
  have HB0 : Hid (Below w.heap.size w W0) := hW0 ▸ ((Below.refl _ _).alloc (Nat.le_refl _) _).alloc (by simp) _
  have HNew : Hid (Calls Try.prog 24 #[.agg #[.slice (some ⟨w.heap.size, 0, none⟩) 2 2, .slice (some ⟨w.heap.size + 1, 0, none⟩) 1 1]] W0 fun e w' => ∃ m B V, e = .returned (.tuple #[.pointer (some ⟨m, 0, none⟩), .int .i64 0]) ∧ Hid (Below W0.heap.size W0 w') ∧ Hid (Mac w' m B V (fun _ => none) (fun _ => 0) rsG dsG 0 0 0) ∧ Hid (∀ j, Mine m B V (fun _ => none) j → W0.heap.size ≤ j)) := by
    have h1 : U64.SV W0 (.slice (some ⟨w.heap.size, 0, none⟩) 2 2) rsG := by
      rw [← hW0]
      exact (two_sv (x := (8192, 4096)) (y := (12288, 8192)) (heap_alloc_new w _)).alloc _
    have h2 : U64.SV W0 (.slice (some ⟨w.heap.size + 1, 0, none⟩) 1 1) dsG := by
      rw [← hW0]
      exact U64.one_sv (x := (20480, 4096)) (U64.new2 (by simp) _ _ _).1 (U64.new2 (by simp) _ _ _).2
    refine (new_ok h1 h2 (by decide) (by decide) (fun y hy => by simp [rsG] at hy; rcases hy with rfl | rfl <;> simp) (fun y hy => by simp [dsG] at hy; subst hy; simp) stake_g1 stake_g2 size_g).mono ?_
    rintro e w' ⟨m, B, V, rfl, h3, h4, h5⟩
    exact ⟨m, B, V, rfl, h3, h4, h5⟩
  rw [hW0]
  clear hW0
  refine HNew.out.mono ?_
  rintro e w1 ⟨m, B, V, rfl, HB1, HM1, HN1⟩
  have hm1 := HM1.out.lt
  have HBw : Hid (Below w.heap.size w w1) := HB0.out.trans (HB1.out.mono HB0.out.size)
  have HNw : Hid (∀ j, Mine m B V (fun _ => none) j → w.heap.size ≤ j) := fun j hj => Nat.le_trans HB0.out.size (HN1.out j hj)
  clear HB0 HB1 HN1 HNew
  go_wp2_with fail
  go_loopw [5] (fun x wr => ∃ (i : Nat) (T : Nat → Option Nat) (M : Nat → Nat), i ≤ zs.length ∧ i ≤ 100 ∧ x = .int .i64 (i : Int) ∧ Hid (Mac wr m B V T M rsG dsG 0 i 0) ∧ Hid (Below w.heap.size w wr) ∧ Hid (∀ j, Mine m B V T j → w.heap.size ≤ j)) (fun x _ => match x with | .int _ z => zs.length - z.toNat | _ => 0)
  case atStart => exact ⟨0, _, _, by omega, by omega, rfl, HM1.out, HBw.out, HNw.out⟩
  case round =>
    obtain ⟨i, T, M, hi, hi2, rfl, HM, HB, HN⟩ := hrel
    by_cases hlt : i < zs.length
    · by_cases hlt2 : i < 100
      · have hbl := HB.out
        obtain ⟨ao', cap', e', _, _, hz, _, h5⟩ := HV.out.below hbl
        cases e'
        obtain ⟨b, o, rfl, hc'⟩ := h5 i hlt
        obtain ⟨z, hzz⟩ : ∃ z, z = zs.getD i 0 := ⟨_, rfl⟩
        have hz2 : z < 256 := by rw [hzz, List.getD_eq_getElem?_getD, List.getElem?_eq_getElem hlt]; exact hz _ (List.getElem_mem hlt)
        rw [← hzz] at hc'
        have HSto : Hid (Calls Try.prog 21 #[.pointer (some ⟨m, 0, none⟩), .int .u64 (8192 + 163 * (i : Int)), .int .i64 1, .int .u64 (z : Int)] wr fun e w' => ∃ x, e = .returned (FaultV 0 x) ∧ ∃ T' M', Hid (Mac w' m B V T' M' rsG dsG 0 (i + 1) 0) ∧ Hid (Below w.heap.size w w') ∧ Hid (∀ j, Mine m B V T' j → w.heap.size ≤ j)) := by
          rw [show (8192 + 163 * (i : Int)) = ((8192 + 163 * i : Nat) : Int) by omega]
          refine (store_any (a := 8192 + 163 * i) (n := 1) (v := z) HM.out (by omega) (.inl rfl) (by omega) (by omega) (by omega)).mono ?_
          rintro e w' ⟨x, b, ho, rfl, hk, _, h2⟩
          obtain rfl := off_yesG ho (by omega) (by omega)
          obtain ⟨T', h3, h4⟩ := h2 rfl
          refine ⟨x, rfl, T', _, h3, below_mine HB.out hk (fun j hj => HN.out j ?_), mine_grows HN.out h4 HB.out.size⟩
          rcases hj with rfl | hj
          · exact .inl rfl
          · exact .inr (.inl hj)
        clear hbl h5 hz hzz
        go_wp2_with fail
        refine HSto.out.mono ?_
        rintro e w2 ⟨x, rfl, T', M', HM2, HB2, HN2⟩
        go_wp2_with fail
        go_roundw
        case rel => exact ⟨i + 1, T', M', by omega, by omega, by go_num, HM2, HB2, HN2⟩
        case measure => simp; omega
      · go_wp2_with fail
        go_ret
        exact ⟨m, B, V, T, M, i, rfl, hi2, HB.out, HM.out, HN.out⟩
    · obtain rfl : i = zs.length := by omega
      go_wp2_with fail
      go_ret
      exact ⟨m, B, V, T, M, _, rfl, hi2, HB.out, HM.out, HN.out⟩
end Go.Proofs.Ytacmdalgdbfehaa
