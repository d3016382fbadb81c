/- askCount, Read. Own work. -/
import Derived.Test.YtmaahompmgmkfaaGreatBAcc
namespace Go.Proofs.YtmaahompmgmkfaaGreat
open Go.RowKit Go.Maps Go.Proofs.YtmaahompmgmkfaaGreat.Sp
set_option maxRecDepth 100000 in
set_option maxHeartbeats 4000000 in
theorem askCount_any {w : World} {m B : Nat} {V : Value × Value × Value} {T : Nat → Option Nat} {M : Nat → Nat} {rs ds : List Sp} {L S X a n : Nat} (h : Mac w m B V T M rs ds L S X) (ha : a ≤ 18446744073709551615) (hn : n ≤ 9223372036854775807) (hX : X ≤ 4611686018427387904) :
    Calls Tryz.prog 41 #[.pointer (some ⟨m, 0, none⟩), .int .u64 (a : Int), .int .i64 (n : Int)] w (AskPost w m B V T M rs ds L S X a n) := by
  have HA : Hid (∀ W, Below w.heap.size w W → Calls Tryz.prog 56 #[.pointer (some ⟨m, 0, none⟩), .int .u64 (a : Int), .int .i64 (n : Int)] W (AskPost W m B V T M rs ds L S X a n)) := fun W hW => ask_any (h.below hW) ha hn hX
  have HM : Hid (Mac w m B V T M rs ds L S X) := h
  have hml := h.lt
  clear h
  go_enter Tryz.func41, Tryz.ntmps41
  go_wp2_with fail
  refine (HA.out _ ((Below.refl _ _).alloc (Nat.le_refl _) _)).mono ?_
  rintro e w1 ⟨x, b, ho, rfl, hm1, hk1⟩
  have HOff : Hid (OffR (rs ++ ds) a n x b) := ho
  have HX1 : Hid (BoxF w1 w.heap.size 0 0) := (BoxF.new w 0 0).keeps hk1 (by omega)
  have HM1 : Hid (Mac w1 m B V T M rs ds L S (up b X)) := hm1
  have HK1 : Hid (Keeps (fun j => j = m) w w1) := (Keeps.alloc (S := fun j => j = m) w _).trans hk1 (fun _ _ e => e)
  obtain ⟨x0, x1, f0, f1⟩ := HX1.out.cells
  clear ho hm1 hk1 HA
  unfold FaultV
  obtain ⟨why, hwhy⟩ : ∃ why, why = (if b = true then (30 : Int) else 0) := ⟨_, rfl⟩
  have HWhy : Hid (why = (if b = true then (30 : Int) else 0)) := hwhy
  rw [← hwhy]
  clear hwhy
  go_wp2_with fail
  obtain ⟨d0, d1, _⟩ := (HX1.out.set why x).cells
  refine bodyPost_ret (v := .agg #[.int .i64 why, .int .u64 x]) (by simp [results, Tryz.results41, go_sem, d0, d1]) rfl ?_
  have hk2 := Keeps.two w1 w.heap.size (.int .i64 why) (.int .u64 x)
  exact ⟨x, b, HOff.out, by rw [HWhy.out]; rfl, HM1.out.keeps hk2 (fun j hj e => by have := HM.out.mine_lt hj; omega), HK1.out.trans hk2 (fun i hi e => absurd e (by omega))⟩
/-- Read of bytes that are on the bus -/
def ReadPost (w : World) (m B : Nat) (V : Value × Value × Value) (T : Nat → Option Nat) (M : Nat → Nat) (rs ds : List Sp) (L S X a n : Nat) (e : Ending) (w' : World) : Prop :=
  ∃ g, e = .returned (.tuple #[.slice (some ⟨g, 0, none⟩) n n, FaultV 0 0]) ∧ RowT w' 5 g (bytesAt M a n) ∧ w.heap.size ≤ g ∧ Mac w' m B V T M rs ds L S X ∧ Keeps (fun j => j = m) w w'
theorem rdTo_all (M : Nat → Nat) (a n : Nat) : rdTo M a n n = bytesAt M a n := by simp [rdTo]
set_option maxRecDepth 100000 in
set_option maxHeartbeats 4000000 in
theorem read_ok {w : World} {m B : Nat} {V : Value × Value × Value} {T : Nat → Option Nat} {M : Nat → Nat} {rs ds : List Sp} {L S X a n : Nat} (h : Mac w m B V T M rs ds L S X) (ha : a ≤ 18446744073709551615) (hn : 0 < n ∧ n ≤ 1099511627776) (hX : X ≤ 4611686018427387904) (hon : ∀ i, i < n → On (rs ++ ds) ((a : Int) + (i : Nat))) :
    Calls Tryz.prog 24 #[.pointer (some ⟨m, 0, none⟩), .int .u64 (a : Int), .int .i64 (n : Int)] w (ReadPost w m B V T M rs ds L S X a n) := by
  have HA : Hid (∀ W, Below w.heap.size w W → Calls Tryz.prog 41 #[.pointer (some ⟨m, 0, none⟩), .int .u64 (a : Int), .int .i64 (n : Int)] W fun e w' => e = .returned (.agg #[.int .i64 0, .int .u64 0]) ∧ Hid (OffR (rs ++ ds) a n 0 false) ∧ Hid (Mac w' m B V T M rs ds L S X) ∧ Hid (Keeps (fun j => j = m) W w')) := fun W hW => by
    refine (askCount_any (h.below hW) ha (by omega) hX).mono ?_
    rintro e w' ⟨x, b, ho, rfl, h1, h2⟩
    have hb : b = false := by
      cases b with
      | false => rfl
      | true =>
        obtain ⟨i, h3, _, _, h4, _⟩ := ho.1 rfl
        exact absurd (hon i h3) h4
    subst hb
    have hx := (ho.2 rfl).1
    subst hx
    exact ⟨rfl, ho, h1, h2⟩
  have HM : Hid (Mac w m B V T M rs ds L S X) := h
  have hml := h.lt
  obtain ⟨i, hi, hz0, hz1, hz2⟩ := info_parts info_byte
  clear h hon
  go_enter Tryz.func24, Tryz.ntmps24
  go_wp2_with fail
  refine (HA.out _ ((Below.refl _ _).alloc (Nat.le_refl _) _)).mono ?_
  rintro e w1 ⟨rfl, HOff, HM1, HK0⟩
  have HX1 : Hid (BoxF w1 w.heap.size 0 0) := (BoxF.new w 0 0).keeps HK0.out (by omega)
  have HK1 : Hid (Keeps (fun j => j = m) w w1) := (Keeps.alloc (S := fun j => j = m) w _).trans HK0.out (fun _ _ e => e)
  obtain ⟨x0, x1, f0, f1⟩ := HX1.out.cells
  clear HA HK0
  have HRange : Hid (a + n ≤ 4294967296) := off_low HOff.out HM.out hn.1
  have hlt1 := HX1.out.lt
  go_wp2_with (at_make; refine wpList_make_full _ rfl _ _ 41 rfl (w1.heap.size + 1) 5 i (.int .u8 0) 1 Tryz.underlying41 hi hz0 hz1 _ _ _ _ n rfl rfl (by omega) (by omega) (by rw [hz2]; omega) (by simp only [maxLen]; omega) (by simp) ?_)
  intro w2 hown hgrow
  have HR2 : Hid (RowT w2 5 (w1.heap.size + 1) (List.replicate n 0)) := row_made hown
  have HB2 : Hid (Below w1.heap.size w1 w2) := ((Below.refl _ _).alloc (Nat.le_refl _) _).grown hgrow (by simp) (by simp)
  have HM2 : Hid (Mac w2 m B V T M rs ds L S X) := HM1.out.below HB2.out
  have HX2 : Hid (BoxF w2 w.heap.size 0 0) := HX1.out.below HB2.out
  clear hown hgrow x0 x1 f0 f1 hi hz0 hz1 hz2
  obtain ⟨_, _, _, c6, _⟩ := HM2.out.cells
  have HRd : Hid (Calls Tryz.prog 39 #[.map (some B), .int .u64 (a : Int), .slice (some ⟨w1.heap.size + 1, 0, none⟩) n n] w2 fun e w' => e = .returned (.tuple #[]) ∧ RowT w' 5 (w1.heap.size + 1) (rdTo M a n n) ∧ Keeps (fun j => j = w1.heap.size + 1) w2 w') :=
    read_any HM2.out.held HRange.out HR2.out (fun hf => by have := HM1.out.held.foot_lt hf; omega) (Nat.le_refl _) (Nat.le_refl _) (by unfold maxLen; omega)
  go_wp2_with (first | (go_at_call 39; refine HRd.out.mono ?_; rintro e w3 ⟨rfl, hr3, hk3⟩; have HR3 : Hid (RowT w3 5 (w1.heap.size + 1) (rdTo M a n n)) := hr3; have HK3 : Hid (Keeps (fun j => j = w1.heap.size + 1) w2 w3) := hk3; have HX3 : Hid (BoxF w3 w.heap.size 0 0) := HX2.out.keeps HK3.out (by omega); obtain ⟨x0, x1, f0, f1⟩ := HX3.out.cells; clear hr3 hk3 HRd c6))
  obtain ⟨d0, d1, _⟩ := (HX3.out.set 0 0).cells
  refine bodyPost_ret (v := .tuple #[.slice (some ⟨w1.heap.size + 1, 0, none⟩) n n, .agg #[.int .i64 0, .int .u64 0]]) (by simp [results, Tryz.results24, go_sem, d0, d1]) rfl ?_
  have hk2 := Keeps.two w3 w.heap.size (.int .i64 0) (.int .u64 0)
  have hr := HR3.out
  rw [rdTo_all] at hr
  refine ⟨_, rfl, (hk2.block (w1.heap.size + 1) (Array.getElem?_eq_some_iff.1 hr).1 (by show ¬ _; omega)).trans hr, by omega, (HM2.out.keeps HK3.out (fun j hj e => ?_)).keeps hk2 (fun j hj e => ?_), ((HK1.out.trans (Keeps.of_below (S := fun _ => False) HB2.out) (fun _ _ h => h.elim)).trans HK3.out (fun i hi e => absurd e ?_)).trans hk2 (fun i hi e => absurd e (by omega))⟩
  · have := HM.out.mine_lt hj; omega
  · have := HM.out.mine_lt hj; omega
  · omega
end Go.Proofs.YtmaahompmgmkfaaGreat
