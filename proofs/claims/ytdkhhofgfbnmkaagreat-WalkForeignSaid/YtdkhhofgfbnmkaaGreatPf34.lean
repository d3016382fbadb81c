import Derived.Test.YtdkhhofgfbnmkaaGreatPf13
import Derived.Test.YtdkhhofgfbnmkaaGreatPf15
import Derived.Test.YtdkhhofgfbnmkaaGreatPf33
import Derived.Test.YtdkhhofgfbnmkaaGreatPf30
import Derived.Test.YtdkhhofgfbnmkaaGreatPf19
/- askCount, Read. Own work. -/
namespace Go.Proofs.YtdkhhofgfbnmkaaGreat
open Go.RowKit Go.Maps Go.Proofs.YtdkhhofgfbnmkaaGreat.Sp
set_option maxRecDepth 100000 in
set_option maxHeartbeats 4000000 in
theorem askCount_any {w : World} {m B : Nat} {V : Value × Value × Value} {T : Nat → Option Nat} {M : Nat → Nat} {rs ds : List Sp} {L S X a n : Nat} (h : Mac w m B V T M rs ds L S X) (ha : a ≤ 18446744073709551615) (hn : n ≤ 9223372036854775807) (hX : X ≤ 4611686018427387904) :
    Calls Tryz.prog 54 #[.pointer (some ⟨m, 0, none⟩), .int .u64 (a : Int), .int .i64 (n : Int)] w (AskPost w m B V T M rs ds L S X a n) := by
  have HA : Hid (∀ W, Below w.heap.size w W → Calls Tryz.prog 70 #[.pointer (some ⟨m, 0, none⟩), .int .u64 (a : Int), .int .i64 (n : Int)] W (AskPost W m B V T M rs ds L S X a n)) := fun W hW => ask_any (h.below hW) ha hn hX
  have HM : Hid (Mac w m B V T M rs ds L S X) := h
  have hml := h.lt
  clear h
  go_enter Tryz.func54, Tryz.ntmps54
  go_wp2_with fail
  refine (HA.out _ ((Below.refl _ _).alloc (Nat.le_refl _) _)).mono ?_
  rintro e w1 ⟨x, b, ho, rfl, hm1, hk1⟩
  have HOff : Hid (OffR (rs ++ ds) a n x b) := ho
  have HX1 : Hid (BoxF w1 w.heap.size 0 0) := (BoxF.new w 0 0).keeps hk1 (by omega)
  have HM1 : Hid (Mac w1 m B V T M rs ds L S (up b X)) := hm1
  have HK1 : Hid (Keeps (fun j => j = m) w w1) := (Keeps.alloc (S := fun j => j = m) w _).trans hk1 (fun _ _ e => e)
  obtain ⟨x0, x1, f0, f1⟩ := HX1.out.cells
  clear ho hm1 hk1 HA
  unfold FaultV
  obtain ⟨why, hwhy⟩ : ∃ why, why = (if b = true then (30 : Int) else 0) := ⟨_, rfl⟩
  have HWhy : Hid (why = (if b = true then (30 : Int) else 0)) := hwhy
  rw [← hwhy]
  clear hwhy
  go_wp2_with fail
  obtain ⟨d0, d1, _⟩ := (HX1.out.set why x).cells
  refine bodyPost_ret (v := .agg #[.int .i64 why, .int .u64 x]) (by simp [results, Tryz.results54, go_sem, d0, d1]) rfl ?_
  have hk2 := Keeps.two w1 w.heap.size (.int .i64 why) (.int .u64 x)
  exact ⟨x, b, HOff.out, by rw [HWhy.out]; rfl, HM1.out.keeps hk2 (fun j hj e => by have := HM.out.mine_lt hj; omega), HK1.out.trans hk2 (fun i hi e => absurd e (by omega))⟩
/-- Read of bytes that are on the bus -/
def ReadPost (w : World) (m B : Nat) (V : Value × Value × Value) (T : Nat → Option Nat) (M : Nat → Nat) (rs ds : List Sp) (L S X a n : Nat) (e : Ending) (w' : World) : Prop :=
  ∃ g, e = .returned (.tuple #[.slice (some ⟨g, 0, none⟩) n n, FaultV 0 0]) ∧ RowT w' 5 g (bytesAt M a n) ∧ w.heap.size ≤ g ∧ Mac w' m B V T M rs ds L S X ∧ Keeps (fun j => j = m) w w'
theorem rdTo_all (M : Nat → Nat) (a n : Nat) : rdTo M a n n = bytesAt M a n := by simp [rdTo]
set_option maxRecDepth 100000 in
set_option maxHeartbeats 4000000 in
theorem read_ok {w : World} {m B : Nat} {V : Value × Value × Value} {T : Nat → Option Nat} {M : Nat → Nat} {rs ds : List Sp} {L S X a n : Nat} (h : Mac w m B V T M rs ds L S X) (ha : a ≤ 18446744073709551615) (hn : 0 < n ∧ n ≤ 1099511627776) (hX : X ≤ 4611686018427387904) (hon : ∀ i, i < n → On (rs ++ ds) ((a : Int) + (i : Nat))) :
    Calls Tryz.prog 27 #[.pointer (some ⟨m, 0, none⟩), .int .u64 (a : Int), .int .i64 (n : Int)] w (ReadPost w m B V T M rs ds L S X a n) := by
  have HA : Hid (∀ W, Below w.heap.size w W → Calls Tryz.prog 54 #[.pointer (some ⟨m, 0, none⟩), .int .u64 (a : Int), .int .i64 (n : Int)] W fun e w' => e = .returned (.agg #[.int .i64 0, .int .u64 0]) ∧ Hid (OffR (rs ++ ds) a n 0 false) ∧ Hid (Mac w' m B V T M rs ds L S X) ∧ Hid (Keeps (fun j => j = m) W w')) := fun W hW => by
    refine (askCount_any (h.below hW) ha (by omega) hX).mono ?_
    rintro e w' ⟨x, b, ho, rfl, h1, h2⟩
    have hb : b = false := by
      cases b with
      | false => rfl
      | true =>
        obtain ⟨i, h3, _, _, h4, _⟩ := ho.1 rfl
        exact absurd (hon i h3) h4
    subst hb
    have hx := (ho.2 rfl).1
    subst hx
    exact ⟨rfl, ho, h1, h2⟩
  have HM : Hid (Mac w m B V T M rs ds L S X) := h
  have hml := h.lt
  obtain ⟨i, hi, hz0, hz1, hz2⟩ := info_parts info_byte
  clear h hon
  go_enter Tryz.func27, Tryz.ntmps27
  go_wp2_with fail
  refine (HA.out _ ((Below.refl _ _).alloc (Nat.le_refl _) _)).mono ?_
  rintro e w1 ⟨rfl, HOff, HM1, HK0⟩
  have HX1 : Hid (BoxF w1 w.heap.size 0 0) := (BoxF.new w 0 0).keeps HK0.out (by omega)
  have HK1 : Hid (Keeps (fun j => j = m) w w1) := (Keeps.alloc (S := fun j => j = m) w _).trans HK0.out (fun _ _ e => e)
  obtain ⟨x0, x1, f0, f1⟩ := HX1.out.cells
  clear HA HK0
  have HRange : Hid (a + n ≤ 4294967296) := off_low HOff.out HM.out hn.1
  have hlt1 := HX1.out.lt
  go_wp2_with (at_make; refine wpList_make_full _ rfl _ _ 50 rfl (w1.heap.size + 1) 5 i (.int .u8 0) 1 Tryz.underlying50 hi hz0 hz1 _ _ _ _ n rfl rfl (by omega) (by omega) (by rw [hz2]; omega) (by simp only [maxLen]; omega) (by simp) ?_)
  intro w2 hown hgrow
  have HR2 : Hid (RowT w2 5 (w1.heap.size + 1) (List.replicate n 0)) := row_made hown
  have HB2 : Hid (Below w1.heap.size w1 w2) := ((Below.refl _ _).alloc (Nat.le_refl _) _).grown hgrow (by simp) (by simp)
  have HM2 : Hid (Mac w2 m B V T M rs ds L S X) := HM1.out.below HB2.out
  have HX2 : Hid (BoxF w2 w.heap.size 0 0) := HX1.out.below HB2.out
  clear hown hgrow x0 x1 f0 f1 hi hz0 hz1 hz2
  obtain ⟨_, _, _, c6, _⟩ := HM2.out.cells
  have HRd : Hid (Calls Tryz.prog 55 #[.map (some B), .int .u64 (a : Int), .slice (some ⟨w1.heap.size + 1, 0, none⟩) n n] w2 fun e w' => e = .returned (.tuple #[]) ∧ RowT w' 5 (w1.heap.size + 1) (rdTo M a n n) ∧ Keeps (fun j => j = w1.heap.size + 1) w2 w') :=
    read_any HM2.out.held HRange.out HR2.out (fun hf => by have := HM1.out.held.foot_lt hf; omega) (Nat.le_refl _) (Nat.le_refl _) (by unfold maxLen; omega)
  go_wp2_with (first | (go_at_call 55; refine HRd.out.mono ?_; rintro e w3 ⟨rfl, hr3, hk3⟩; have HR3 : Hid (RowT w3 5 (w1.heap.size + 1) (rdTo M a n n)) := hr3; have HK3 : Hid (Keeps (fun j => j = w1.heap.size + 1) w2 w3) := hk3; have HX3 : Hid (BoxF w3 w.heap.size 0 0) := HX2.out.keeps HK3.out (by omega); obtain ⟨x0, x1, f0, f1⟩ := HX3.out.cells; clear hr3 hk3 HRd c6))
  obtain ⟨d0, d1, _⟩ := (HX3.out.set 0 0).cells
  refine bodyPost_ret (v := .tuple #[.slice (some ⟨w1.heap.size + 1, 0, none⟩) n n, .agg #[.int .i64 0, .int .u64 0]]) (by simp [results, Tryz.results27, go_sem, d0, d1]) rfl ?_
  have hk2 := Keeps.two w3 w.heap.size (.int .i64 0) (.int .u64 0)
  have hr := HR3.out
  rw [rdTo_all] at hr
  refine ⟨_, rfl, (hk2.block (w1.heap.size + 1) (Array.getElem?_eq_some_iff.1 hr).1 (by show ¬ _; omega)).trans hr, by omega, (HM2.out.keeps HK3.out (fun j hj e => ?_)).keeps hk2 (fun j hj e => ?_), ((HK1.out.trans (Keeps.of_below (S := fun _ => False) HB2.out) (fun _ _ h => h.elim)).trans HK3.out (fun i hi e => absurd e ?_)).trans hk2 (fun i hi e => absurd e (by omega))⟩
  · have := HM.out.mine_lt hj; omega
  · have := HM.out.mine_lt hj; omega
  · omega
end Go.Proofs.YtdkhhofgfbnmkaaGreat
/- bulkheadlaw4.small, whole. Own work. -/
namespace Go.Proofs.YtdkhhofgfbnmkaaGreat
open Go.RowKit Go.Maps Go.Proofs.YtdkhhofgfbnmkaaGreat.Sp Wk
open Classical in
noncomputable def smallB (rs ds : List Sp) : Bool := decide (refW rs ds = 0 ∧ smR (rs ++ ds) ≤ 500000)
theorem refW_sane {rs ds : List Sp} (fr : Fits 18446744073709551615 rs) (fd : Fits 18446744073709551615 ds) (h : refW rs ds = 0) : (∀ x ∈ rs ++ ds, 0 ≤ x.1 ∧ 0 < x.2 ∧ x.1 + x.2 ≤ 4294967296) ∧ rs.length ≤ 8 ∧ ds.length ≤ 32 := by
  by_cases hl : 8 < rs.length ∨ 32 < ds.length
  · rw [refW, if_pos hl] at h; omega
  · rw [refW, if_neg hl] at h
    by_cases h1 : stakeW 18446744073709551615 [] rs = 0
    · by_cases h2 : stakeW 1048576 rs ds = 0
      · refine ⟨fun x hx => ?_, by omega, by omega⟩
        rcases List.mem_append.1 hx with hx | hx
        · have := stakeW_sane rs [] fr h1 x hx
          exact ⟨(fr x hx).1, this.1, this.2⟩
        · have := stakeW_sane ds rs fd h2 x hx
          exact ⟨(fd x hx).1, this.1, this.2⟩
      · simp [h1, h2] at h
    · simp [h1] at h
theorem smR_take_step {L : List Sp} {k : Nat} (h : k < L.length) : smR (L.take (k + 1)) = smR (L.take k) + L[k].2 := by
  rw [List.take_succ_eq_append_getElem h, smR_append]
  simp [smR]
theorem bytesAt_len (M : Nat → Nat) (a n : Nat) : (bytesAt M a n).length = n := by simp [bytesAt]
theorem bytesAt_small {M : Nat → Nat} (hM : ∀ p, M p < 256) (a n : Nat) : ∀ z ∈ bytesAt M a n, z < 256 := by
  intro z hz
  obtain ⟨j, _, rfl⟩ := List.mem_map.1 hz
  exact hM _
/-- all bytes of ranges -/
def wholeL (M : Nat → Nat) (L : List Sp) : List Nat := L.flatMap fun x => bytesAt M x.1.toNat x.2.toNat
theorem wholeL_len {M : Nat → Nat} : ∀ {L : List Sp}, (∀ x ∈ L, 0 ≤ x.2) → ((wholeL M L).length : Int) = smR L
  | [], _ => rfl
  | x :: L, h => by
    have ih := wholeL_len (M := M) (L := L) (fun y hy => h y (List.mem_cons_of_mem _ hy))
    have hx := h x (List.mem_cons_self ..)
    show (((bytesAt M x.1.toNat x.2.toNat ++ wholeL M L).length : Nat) : Int) = x.2 + smR L
    rw [List.length_append, bytesAt_len]
    omega
theorem wholeL_take {M : Nat → Nat} {L : List Sp} {k : Nat} (h : k < L.length) : wholeL M (L.take (k + 1)) = wholeL M (L.take k) ++ bytesAt M L[k].1.toNat L[k].2.toNat := by
  unfold wholeL
  rw [List.take_succ_eq_append_getElem h, List.flatMap_append, List.flatMap_singleton]
theorem smR_le_of_take {L : List Sp} (h : ∀ x ∈ L, 0 ≤ x.2) (k : Nat) : smR (L.take k) ≤ smR L := by
  have e := smR_append (L.take k) (L.drop k)
  rw [List.take_append_drop] at e
  have : ∀ l : List Sp, (∀ x ∈ l, 0 ≤ x.2) → 0 ≤ smR l := by
    intro l
    induction l with
    | nil => intro _; exact Int.le_refl _
    | cons y l ih => intro hh; have := ih (fun z hz => hh z (List.mem_cons_of_mem _ hz)); have := hh y (List.mem_cons_self ..); simp only [smR]; omega
  have := this (L.drop k) (fun x hx => h x (List.mem_of_mem_drop hx))
  omega
end Go.Proofs.YtdkhhofgfbnmkaaGreat
/- The two machines of the law and what is laid into them. Own work. -/
namespace Go.Proofs.YtdkhhofgfbnmkaaGreat
open Go.RowKit Go.Maps Go.Proofs.YtdkhhofgfbnmkaaGreat.Sp Wk
/-- a machine and the document's own beside it -/
def GI (w0 wr : World) (base m B : Nat) (V : Value × Value × Value) (v : Nat) (vr vd : Value) (rs ds : List Sp) (n k : Nat) : Prop :=
  ∃ T M, Mx wr m B V T M rs ds n ∧ (∀ j, Mine m B V T j → w0.heap.size ≤ j) ∧ (∀ j, Mine m B V (fun _ => none) j → j < base) ∧ w0.heap.size ≤ base ∧ base ≤ wr.heap.size ∧ Below w0.heap.size w0 wr ∧ ∃ vp ps L S X, RS wr base v vr vd vp ps L S X ∧ S ≤ k ∧ X ≤ k ∧ Pn ps
theorem mine_notVB {w : World} {base m B : Nat} {V : Value × Value × Value} {T : Nat → Option Nat} {M : Nat → Nat} {rs ds : List Sp} {n : Nat} (h : Mx w m B V T M rs ds n) (hm : ∀ j, Mine m B V (fun _ => none) j → j < base) : ∀ j, Mine m B V T j → ¬ VB base w j := by
  rintro j hj ⟨hb, c, t, fr, hc, ht⟩
  rcases hj with rfl | (rfl | ⟨k, hk⟩) | hj
  · have := hm j (.inl rfl); omega
  · have := hm j (.inr (.inl (.inl rfl))); omega
  · obtain ⟨L, S, X, _, _, _, G, _, _, _, _, _, _, _, _, hh, _⟩ := h
    have hp : w.heap[j]? = _ := (hh.2.1 k j hk).1
    rw [hp] at hc
    injection hc with hc
    injection hc with _ hc _
    subst hc
    rcases ht with ht | ht | ht <;> cases ht
  · have := hm j (.inr (.inr hj)); omega
theorem GI.below {w0 wr W : World} {base m B : Nat} {V : Value × Value × Value} {v : Nat} {vr vd : Value} {rs ds : List Sp} {n k : Nat} (h : GI w0 wr base m B V v vr vd rs ds n k) (hb : Below wr.heap.size wr W) : GI w0 W base m B V v vr vd rs ds n k := by
  obtain ⟨T, M, h1, h2, h3, h4, h5, h6, vp, ps, L, S, X, h7, h8⟩ := h
  exact ⟨T, M, h1.below hb, h2, h3, h4, Nat.le_trans h5 hb.size, h6.trans (hb.mono h6.size), vp, ps, L, S, X, h7.below hb, h8⟩
theorem below_keeps {w0 wr w' : World} {Z : Nat → Prop} (h : Below w0.heap.size w0 wr) (hk : Keeps Z wr w') (hz : ∀ j, Z j → w0.heap.size ≤ j) : Below w0.heap.size w0 w' :=
  h.trans ⟨hk.os, hk.tape, hk.output, hk.size, fun j hj => hk.block j (Nat.lt_of_lt_of_le hj h.size) (fun e => by have := hz j e; omega)⟩
theorem g_store1 {w0 wr : World} {base m B : Nat} {V : Value × Value × Value} {v : Nat} {vr vd : Value} {rs ds : List Sp} {n k a val : Nat} (h : GI w0 wr base m B V v vr vd rs ds n k) (ha : a ≤ 18446744073709551615) (hval : val ≤ 18446744073709551615) (hn : n ≤ 4611686018427387904) :
    Calls Tryz.prog 17 #[.pointer (some ⟨m, 0, none⟩), .int .u64 (a : Int), .int .i64 8, .int .u64 (val : Int)] wr fun e w' => (∃ f, e = .returned f) ∧ Hid (GI w0 w' base m B V v vr vd rs ds (n + 1) k) := by
  obtain ⟨T, M, ⟨L, S, X, hL, hS, hX, h1⟩, h2, h3, h4, h5, h6, vp, ps, L', S', X', h7, h8⟩ := h
  refine (store_any (n := 8) h1 ha (.inr (.inr (.inr rfl))) hval (by omega) (by omega)).mono ?_
  rintro e w' ⟨x, b, _, rfl, hk, hb1, hb2⟩
  refine ⟨⟨_, rfl⟩, ?_⟩
  have hz : ∀ j, (j = m ∨ Foot B T j) → w0.heap.size ≤ j := fun j e => h2 j (e.elim .inl (fun e => .inr (.inl e)))
  have hRS : RS w' base v vr vd vp ps L' S' X' := h7.keeps hk (fun j hv e => mine_notVB ⟨L, S, X, hL, hS, hX, h1⟩ h3 j (e.elim .inl (fun e => .inr (.inl e))) hv)
  have hB := below_keeps h6 hk hz
  cases b with
  | true => exact ⟨T, M, ⟨L, S, X + 1, by omega, by omega, by omega, hb1 rfl⟩, h2, h3, h4, Nat.le_trans h5 hk.size, hB, vp, ps, L', S', X', hRS, h8⟩
  | false =>
    obtain ⟨T', hm', hg⟩ := hb2 rfl
    refine ⟨T', _, ⟨L, S + 1, X, by omega, by omega, by omega, hm'⟩, fun j hj => ?_, h3, h4, Nat.le_trans h5 hk.size, hB, vp, ps, L', S', X', hRS, h8⟩
    rcases hj with rfl | (rfl | ⟨i, hi⟩) | hj
    · exact h2 _ (.inl rfl)
    · exact h2 _ (.inr (.inl (.inl rfl)))
    · rcases hg i j hi with hi | hi
      · exact h2 _ (.inr (.inl (.inr ⟨i, hi⟩)))
      · exact Nat.le_trans h6.size hi
    · exact h2 _ (.inr (.inr hj))
theorem g_store2 {w0 wr : World} {base m B : Nat} {V : Value × Value × Value} {v : Nat} {vr vd : Value} {rs ds : List Sp} {n k a val : Nat} (h : GI w0 wr base m B V v vr vd rs ds n k) (hr : U64.SV w0 vr rs) (hd : U64.SV w0 vd ds) (hl : rs.length + ds.length ≤ 64) (ha : a ≤ 18446744073709551615) (hn : k ≤ 4611686018427387904) :
    Calls Tryz.prog 11 #[.pointer (some ⟨v, 0, none⟩), .int .u64 (a : Int), .int .i64 8, .int .u64 (val : Int)] wr fun e w' => (∃ f, e = .returned f) ∧ Hid (GI w0 w' base m B V v vr vd rs ds n (k + 1)) := by
  obtain ⟨T, M, h1, h2, h3, h4, h5, h6, vp, ps, L, S, X, h7, h8, h9, h10⟩ := h
  refine (rstore_any h7 h5 (hr.below h6 (Nat.le_refl _)) (hd.below h6 (Nat.le_refl _)) h1.sane hl ha h10 (by omega) (by omega)).mono ?_
  rintro e w' ⟨hf, vp', ps', S', X', hr', hp', hS', hX', hk⟩
  exact ⟨hf, T, M, h1.keeps hk (mine_notVB h1 h3), h2, h3, h4, Nat.le_trans h5 hk.size, below_keeps h6 hk (fun j e => Nat.le_trans h4 e.1), vp', ps', L, S', X', hr', by omega, by omega, hp'⟩
end Go.Proofs.YtdkhhofgfbnmkaaGreat
