import Derived.Test.YtfnikcjcgneboaaGreatPk32
/- The document's own machine with pages: its bytes, as they lie there. Own work. -/
namespace Go.Proofs.YtfnikcjcgneboaaGreat
open Go.RowKit Go.Maps Go.Proofs.YtfnikcjcgneboaaGreat.Sp Wk
def fB (M : Nat → Nat) (a i : Nat) : Nat → Nat := fun x => if x < i then M (a + x) else 0
theorem P8.step {w : World} {g n : Nat} {M : Nat → Nat} {a s : Nat} (h : P8 w g n (fB M a s)) : P8 (w.setCell ⟨g, s, none⟩ (.int .u8 ((M (a + s) : Nat) : Int))) g n (fB M a (s + 1)) := by
  refine (h.set s (M (a + s))).congr fun i _ => ?_
  unfold fB
  by_cases e : i = s
  · rw [if_pos e, if_pos (by omega), e]
  · rw [if_neg e]
    by_cases e2 : i < s
    · rw [if_pos e2, if_pos (by omega)]
    · rw [if_neg e2, if_neg (by omega)]
set_option maxRecDepth 100000 in
set_option maxHeartbeats 4000000 in
theorem rbytes_at {w : World} {base v : Nat} {vr vd vp : Value} {ps : List (Int × Nat)} {M : Nat → Nat} {L S X a n : Nat} (h : RM w base v vr vd vp ps M L S X) (hn1 : 1 ≤ n) (hn : n ≤ 8) (ha : a + n ≤ 4294967400) :
    Calls Tryz.prog 97 #[.pointer (some ⟨v, 0, none⟩), .int .u64 (a : Int), .int .i64 (n : Int)] w fun e w' => e = .returned (.slice (some ⟨w.heap.size, 0, none⟩) n n) ∧ P8 w' w.heap.size n (fun i => M (a + i)) ∧ Below w.heap.size w w' := by
  obtain ⟨i, hi, hz0, hz1, hz2⟩ := info_parts info_byte
  have HR := Lib.hid h
  have hvl := h.2.1.lt
  clear h
  go_enter Tryz.func97, Tryz.ntmps97
  go_wp2_with (at_make; refine wpList_make_full _ rfl _ _ 50 rfl w.heap.size 5 i (.int .u8 0) 1 Tryz.underlying50 hi hz0 hz1 _ _ _ _ n rfl rfl (by omega) (by omega) (by rw [hz2]; omega) (by simp only [maxLen]; omega) (by simp) ?_)
  intro w1 hown hgrow
  have HB1 : Hid (Below w.heap.size w w1) := (Below.refl _ _).grown hgrow (by simp) (by simp)
  have HP1 : Hid (P8 w1 w.heap.size n (fB M a 0)) := by
    rcases hown.2 with ⟨hc, _⟩ | ⟨g', cap, cur, hv, _, hg, _, _, hs, ht⟩
    · cases hc
    · cases hv
      refine ⟨cur, hg, fun k hk => ?_⟩
      have e : (fB M a 0 k : Nat) = 0 := rfl
      rw [e, ← Array.getElem?_toList]
      have h0 : (cur.toList.take (n * 1))[k]? = some (.int .u8 ((0 : Nat) : Int)) := by
        rw [ht]
        simp [madeCells, hk, Nat.mod_one]
      rw [List.getElem?_take_of_lt (by omega)] at h0
      exact h0
  clear hown hgrow hi hz0 hz1 hz2
  go_wp2_with fail
  go_loopw [8] (fun iv wr => ∃ i : Nat, i ≤ n ∧ iv = .int .i64 (i : Int) ∧ Hid (P8 wr w.heap.size n (fB M a i) ∧ Below w.heap.size w wr)) (fun iv _ => n - (intOf iv).toNat)
  case atStart => exact ⟨0, Nat.zero_le _, rfl, HP1.out, HB1.out⟩
  case round =>
    obtain ⟨i, hi, rfl, HP⟩ := hrel
    by_cases hlt : i < n
    · have HRw : Hid (RM wr base v vr vd vp ps M L S X) := HR.out.below HP.out.2
      have qi : (i : Int) < (n : Int) := by omega
      have hai : (a : Int) + (i : Int) ≤ 18446744073709551615 := by omega
      obtain ⟨fr, hfr, hfr2⟩ : ∃ fr : Nat, ((a : Int) + (i : Int)) % 4096 = (fr : Int) ∧ fr < 4096 := ⟨(a + i) % 4096, by omega, by omega⟩
      obtain ⟨pg, hpg⟩ : ∃ pg : Nat, ((a : Int) + (i : Int)) / 4096 = (pg : Int) := ⟨(a + i) / 4096, by omega⟩
      have hw1 : IntKind.u64.wrap ((a : Int) + (i : Int)) = (a : Int) + (i : Int) := by rw [IntKind.wrap_u64]; omega
      have HF : Hid (Calls Tryz.prog 65 #[.pointer (some ⟨v, 0, none⟩), .int .u64 (pg : Int)] wr fun e w' => ∃ j : Int, e = .returned (.int .i64 j) ∧ Hid ((j = -1 ∧ ∀ x ∈ ps, x.1 ≠ (pg : Int)) ∨ ∃ i : Nat, j = (i : Int) ∧ ∃ hi : i < ps.length, (ps[i]'hi).1 = (pg : Int)) ∧ wr = w') := rfind_at HRw.out.rs (by have := HRw.out.pn.len; omega)
      obtain ⟨k, hk1, hk2, hk3, hkk⟩ : ∃ k : Nat, 1 ≤ k ∧ k ≤ n - i ∧ k + fr ≤ 4096 ∧ Hid ((decide ((k : Int) < 4096 - (fr : Int)) = true ∧ (n : Int) - (i : Int) = (k : Int)) ∨ (decide ((n : Int) - (i : Int) < (k : Int)) = false ∧ (4096 : Int) - (fr : Int) = (k : Int))) := by
        by_cases hc : n - i < 4096 - fr
        · exact ⟨n - i, by omega, by omega, by omega, .inl ⟨by simp; omega, by omega⟩⟩
        · exact ⟨4096 - fr, by omega, by omega, by omega, .inr ⟨by simp; omega, by omega⟩⟩
      go_upto_if 30 with fail
      go_cut [10] (fun s wx => s = .int .i64 (k : Int) ∧ wx = wr)
      case first =>
        rcases hkk.out with ⟨hci, hk⟩ | ⟨hci, hk⟩
        · have hcp : (n : Int) - (i : Int) < 4096 - (fr : Int) := by rw [hk]; exact of_decide_eq_true hci
          clear hci
          rw [hk] at hcp
          go_wp2_with fail
          go_meet
          exact ⟨rfl, rfl⟩
        · have hcp : ¬ (n : Int) - (i : Int) < (k : Int) := of_decide_eq_false hci
          clear hci
          go_wp2_with fail
          go_meet
          exact ⟨rfl, rfl⟩
      case rest =>
        obtain ⟨rfl, rfl⟩ := hcut
        clear hkk
        go_wp2_with fail
        refine HF.out.mono ?_
        rintro e w1 ⟨j, rfl, hj, rfl⟩
        clear HF
        rcases hj.out with ⟨rfl, hjx⟩ | ⟨jj, rfl, hjj, hjp⟩
        · clear hj
          have HZ : Hid (P8 wc w.heap.size n (fB M a (i + k))) := HP.out.1.congr fun x _ => by
            unfold fB
            by_cases e1 : x < i
            · rw [if_pos e1, if_pos (by omega)]
            · rw [if_neg e1]
              by_cases e2 : x < i + k
              · rw [if_pos e2, HRw.out.2.2.2.2.2.2.2 _ fun y hy => ?_]
                have := hjx y hy
                intro e
                exact this (e.trans (by omega))
              · rw [if_neg e2]
          clear hjx
          go_wp2_with fail
          refine wp_loop_rounds 1 ?_
          rw [rounds_succ]
          go_wp2_with fail
          refine ⟨⟨i + k, by omega, by go_num, HZ.out, HP.out.2⟩, by simp [intOf]; omega⟩
        · clear hj
          have HJ : Hid (∃ hi : jj < ps.length, (ps[jj]'hi).1 = (pg : Int)) := ⟨hjj, hjp⟩
          clear hjj hjp
          have jj0 : (0 : Int) ≤ (jj : Int) := Int.natCast_nonneg _
          go_wp2_with fail
          go_loopw [12] (fun qv wq => ∃ q : Nat, q ≤ k ∧ qv = .int .i64 (q : Int) ∧ Hid (P8 wq w.heap.size n (fB M a (i + q)) ∧ Below w.heap.size w wq)) (fun qv _ => k - (intOf qv).toNat)
          case atStart => exact ⟨0, Nat.zero_le _, rfl, HP.out⟩
          case round =>
            clear HP HRw
            obtain ⟨q, hq, rfl, HQ⟩ := hrel
            by_cases hqk : q < k
            · have qki : (q : Int) < (k : Int) := by omega
              have HRq : Hid (RM wr base v vr vd vp ps M L S X) := HR.out.below HQ.out.2
              obtain ⟨c0, c1, c2, _⟩ := HRq.out.2.1.cells
              obtain ⟨a1, cc, hvp, hc1, hc2, _⟩ := HRq.out.2.2.1.form
              unfold maxLen at hc2
              obtain ⟨n1, hn1'⟩ : ∃ n1, n1 = ps.length := ⟨_, rfl⟩
              have HN1 : Hid (n1 = ps.length) := hn1'
              rw [← hn1'] at hvp hc1
              have hjn : jj < n1 := by rw [HN1.out]; exact HJ.out.1
              subst hvp
              clear hn1'
              obtain ⟨g, rfl, d0, d1⟩ := HRq.out.2.2.1.cell jj HJ.out.1
              obtain ⟨X0, hX0⟩ : ∃ X0, X0 = ps[jj]'HJ.out.1 := ⟨_, rfl⟩
              rw [← hX0] at d0 d1
              have HXM : Hid (X0 ∈ ps) := hX0 ▸ List.getElem_mem HJ.out.1
              have HX1 : Hid (X0.1 = (pg : Int)) := hX0 ▸ HJ.out.2
              clear hX0
              obtain ⟨_, hxu⟩ := HRq.out.2.2.2.1 X0 HXM.out
              generalize X0.2 = x at d1 hxu
              have HXU := Lib.hid hxu
              clear hxu
              obtain ⟨s, hs, hs2⟩ : ∃ s : Nat, (i : Int) + (q : Int) = (s : Int) ∧ s < n := ⟨i + q, by omega, by omega⟩
              obtain ⟨t, ht, ht2⟩ : ∃ t : Nat, (fr : Int) + (q : Int) = (t : Int) ∧ t < 4096 := ⟨fr + q, by omega, by omega⟩
              have hcy := HXU.out.cell t ht2
              rw [show X0.1.toNat * 4096 + t = a + s by rw [HX1.out]; omega] at hcy
              obtain ⟨y, hcz⟩ : ∃ y : Nat, wr.cell? ⟨w.heap.size, s, none⟩ = some (.int .u8 (y : Int)) := ⟨_, HQ.out.1.cell s hs2⟩
              have hfz := HQ.out.1.thawed s
              have HW : Hid (P8 (wr.setCell ⟨w.heap.size, s, none⟩ (.int .u8 ((M (a + s) : Nat) : Int))) w.heap.size n (fB M a (i + (q + 1))) ∧ Below w.heap.size w (wr.setCell ⟨w.heap.size, s, none⟩ (.int .u8 ((M (a + s) : Nat) : Int)))) := by
                rw [show i + (q + 1) = s + 1 by omega]
                exact ⟨P8.step (by rw [show s = i + q by omega]; exact HQ.out.1), HQ.out.2.setCell (Nat.le_refl _) _⟩
              generalize M (a + s) = z at hcy HW
              go_wp2_with fail
              exact ⟨⟨q + 1, by omega, by go_num, HW⟩, by simp [intOf]; omega⟩
            · obtain rfl : q = k := by omega
              go_wp2_with fail
              exact ⟨⟨i + q, by omega, by go_num, HQ.out⟩, by simp [intOf]; omega⟩
    · obtain rfl : i = n := by omega
      go_wp2_with fail
      go_ret
      exact ⟨rfl, HP.out.1.congr fun x hx => by unfold fB; rw [if_pos hx], HP.out.2⟩
end Go.Proofs.YtfnikcjcgneboaaGreat
/- The document's own machine with pages: its Peek and its Load of any width. Own work. -/
namespace Go.Proofs.YtfnikcjcgneboaaGreat
open Go.RowKit Go.Maps Go.Proofs.YtfnikcjcgneboaaGreat.Sp Wk
theorem rdTo_get (M : Nat → Nat) (a C n k : Nat) : (rdTo M a C n).getD k 0 = if k < n then M (a + k) else 0 := by
  unfold rdTo
  rw [List.getD_eq_getElem?_getD]
  by_cases h : k < n
  · rw [if_pos h, List.getElem?_append_left (by rw [bytesAt_length]; exact h), bytesAt_get M a n k h]
    rfl
  · rw [if_neg h, List.getElem?_append_right (by rw [bytesAt_length]; omega), List.getElem?_replicate]
    split <;> rfl
theorem acc_zero {zs : List Nat} : ∀ (m k : Nat), (∀ j, k ≤ j → zs.getD j 0 = 0) → Pl.acc zs k m = 0
  | 0, _, _ => rfl
  | m + 1, k, h => by
    show zs.getD k 0 + 256 * Pl.acc zs (k + 1) m = 0
    rw [h k (Nat.le_refl _), acc_zero m (k + 1) (fun j hj => h j (by omega))]
theorem acc_add {zs : List Nat} (r : Nat) : ∀ (m k : Nat), (∀ j, k + m ≤ j → zs.getD j 0 = 0) → Pl.acc zs k (m + r) = Pl.acc zs k m
  | 0, k, h => by rw [Nat.zero_add]; exact acc_zero r k h
  | m + 1, k, h => by
    rw [show m + 1 + r = m + r + 1 by omega]
    show zs.getD k 0 + 256 * Pl.acc zs (k + 1) (m + r) = zs.getD k 0 + 256 * Pl.acc zs (k + 1) m
    rw [acc_add r m (k + 1) (fun j hj => h j (by omega))]
theorem num_rdTo (M : Nat → Nat) (a n : Nat) (h : n ≤ 8) : Pl.num 8 (rdTo M a 8 n) = Pl.acc (rdTo M a 8 n) 0 n := by
  have := acc_add (zs := rdTo M a 8 n) (8 - n) n 0 (fun j hj => by rw [rdTo_get, if_neg (by omega)])
  rw [show n + (8 - n) = 8 by omega] at this
  exact this
/-- what the document's own Peek and Load do -/
def RPkM (w : World) (base v : Nat) (vr vd vp : Value) (ps : List (Int × Nat)) (M : Nat → Nat) (LL : List Sp) (L S X a n : Nat) (d : Bool → Nat) (e : Ending) (w' : World) : Prop :=
  ∃ x b, OffR LL a n x b ∧ e = .returned (.tuple #[.int .u64 (if b then 0 else (Pl.num 8 (rdTo M a 8 n) : Nat) : Int), FaultV (if b then 30 else 0) x]) ∧ RM w' base v vr vd vp ps M (L + d b) S (up b X) ∧ Keeps (fun j => j = v) w w'
set_option maxRecDepth 100000 in
set_option maxHeartbeats 4000000 in
theorem rpeek_at {w : World} {base v : Nat} {vr vd vp : Value} {ps : List (Int × Nat)} {M : Nat → Nat} {rs ds : List Sp} {L S X a n : Nat} (h : RM w base v vr vd vp ps M L S X) (hw : Wide n) (hr : U64.SV w vr rs) (hd : U64.SV w vd ds) (hs : Sane (rs ++ ds)) (hll : rs.length + ds.length ≤ 64) (ha : a ≤ 18446744073709551615) (hX : X ≤ 4611686018427387904) :
    Calls Tryz.prog 87 #[.pointer (some ⟨v, 0, none⟩), .int .u64 (a : Int), .int .i64 (n : Int)] w (RPkM w base v vr vd vp ps M (rs ++ ds) L S X a n (fun _ => 0)) := by
  have HR := Lib.hid h
  have HAc : Hid (∀ W, Below w.heap.size w W → Calls Tryz.prog 37 #[.pointer (some ⟨v, 0, none⟩), .int .u64 (a : Int), .int .i64 (n : Int)] W (RAsk W v vr vd vp (rs ++ ds) L S X a n)) := fun W hW => raccess_any (h.2.1.below hW) (hr.below hW (Nat.le_refl _)) (hd.below hW (Nat.le_refl _)) hs hll ha (by rcases hw with h | h | h | h <;> omega) hX
  have HS := Lib.hid hs
  have HRt : Hid (∀ W, Calls Tryz.prog 36 #[.int .i64 (n : Int)] W fun e w' => e = .returned (.bool true) ∧ w' = W) := right_wide hw
  have hvl := h.2.1.lt
  generalize rs ++ ds = LL at *
  have hn1 : 1 ≤ n := by rcases hw with h | h | h | h <;> omega
  have hn8 : n ≤ 8 := by rcases hw with h | h | h | h <;> omega
  clear h hr hd hs hll hw
  go_enter Tryz.func87, Tryz.ntmps87
  go_wp2_with (go_at_call 36; refine (HRt.out _).mono ?_; rintro e w' ⟨rfl, hw⟩; have hw := hw.symm; subst hw)
  refine (HAc.out _ ((Below.refl _ _).alloc (Nat.le_refl _) _)).mono ?_
  rintro e w1 ⟨x, b, ho, rfl, hm1, hk1⟩
  have HOff : Hid (OffR LL a n x b) := ho
  have HX1 : Hid (BoxG w1 w.heap.size 0 0) := (BoxG.new w 0 0).keeps hk1 (show ¬ w.heap.size = v by omega)
  have HK1 : Hid (Keeps (fun j => j = v) w w1) := (Keeps.alloc (S := fun j => j = v) w _).trans hk1 (fun _ _ e => e)
  have HM1 : Hid (RM w1 base v vr vd vp ps M L S (up b X)) := (HR.out.box HK1.out hm1).1
  obtain ⟨x0, x1, f0, f1⟩ := HX1.out.cells
  have hne : w.heap.size ≠ w1.heap.size := Nat.ne_of_lt HX1.out.lt
  have hlt1 := HX1.out.lt
  have hml1 := HM1.out.2.1.lt
  clear ho hm1 hk1 HAc HR
  unfold FaultV
  cases b with
  | true =>
    simp only [if_true]
    go_wp2_with fail
    obtain ⟨W2, hW2⟩ : ∃ W2, w1.alloc (Obj.cells #[.int .i64 30, .int .u64 x] 41) = W2 := ⟨_, rfl⟩
    have HF2 : Hid (BoxG W2 w1.heap.size 30 x) := hW2 ▸ BoxG.new w1 30 x
    have HX2 : Hid (BoxG W2 w.heap.size 0 0) := hW2 ▸ HX1.out.below ((Below.refl _ _).alloc (Nat.le_refl _) _)
    have HB2 : Hid (Below w1.heap.size w1 W2) := hW2 ▸ (Below.refl _ _).alloc (Nat.le_refl _) _
    rw [hW2]
    obtain ⟨x0, x1, f0, f1⟩ := HX2.out.cells
    obtain ⟨y0, y1, _, _⟩ := HF2.out.cells
    clear hW2
    go_region_held3 (fun w' => w'.cell? ⟨w1.heap.size, 0, none⟩ = some (.int .i64 30) ∧ w'.cell? ⟨w1.heap.size, 1, none⟩ = some (.int .u64 x)) (go_keep) (fail)
    go_wp2_with fail
    obtain ⟨d0, d1, _⟩ := BoxG.cells (w := ((W2.setCell ⟨w.heap.size, 0, none⟩ (.int .i64 30)).setCell ⟨w.heap.size, 1, none⟩ (.int .u64 x)).drew) (HX2.out.set 30 x)
    refine bodyPost_ret (v := .tuple #[.int .u64 0, .agg #[.int .i64 30, .int .u64 x]]) (by simp [results, Tryz.results87, go_sem, d0, d1]) rfl ?_
    have hk2 : Keeps (fun j => j = w.heap.size) W2 (((W2.setCell ⟨w.heap.size, 0, none⟩ (.int .i64 30)).setCell ⟨w.heap.size, 1, none⟩ (.int .u64 x)).drew) := (Keeps.two W2 w.heap.size (.int .i64 30) (.int .u64 x)).drew
    exact ⟨x, true, HOff.out, rfl, (HM1.out.below HB2.out).keeps hk2 HX2.out.notVB, (HK1.out.trans (Keeps.of_below (S := fun _ => False) HB2.out) (fun _ _ h => h.elim)).trans hk2 (fun i hi e => absurd e (by omega))⟩
  | false =>
    simp only [Bool.false_eq_true, if_false]
    obtain ⟨hx0, hon⟩ := HOff.out.2 rfl
    subst hx0
    have hle := on_le HS.out (hon 0 (by omega))
    clear hon
    go_wp2_with fail
    obtain ⟨W2, hW2⟩ : ∃ W2, w1.alloc (Obj.cells #[.int .i64 0, .int .u64 0] 41) = W2 := ⟨_, rfl⟩
    have HF2 : Hid (BoxG W2 w1.heap.size 0 0) := hW2 ▸ BoxG.new w1 0 0
    have HX2 : Hid (BoxG W2 w.heap.size 0 0) := hW2 ▸ HX1.out.below ((Below.refl _ _).alloc (Nat.le_refl _) _)
    have HB2 : Hid (Below w1.heap.size w1 W2) := hW2 ▸ (Below.refl _ _).alloc (Nat.le_refl _) _
    try rw [hW2]
    have HBy := Lib.hid (rbytes_at (n := n) (a := a) (HM1.out.below HB2.out) hn1 hn8 (by omega))
    clear hW2
    refine HBy.out.mono ?_
    rintro e w3 ⟨rfl, hp3, hb3⟩
    have HB3 : Hid (Below W2.heap.size W2 w3) := hb3
    have HP3 := Lib.hid hp3
    have HF3 : Hid (BoxG w3 w1.heap.size 0 0) := HF2.out.below hb3
    have HX3 : Hid (BoxG w3 w.heap.size 0 0) := HX2.out.below hb3
    have HM3 : Hid (∀ p, M p < 256) := HM1.out.2.2.2.2.2.2.1
    clear hb3 HBy hp3
    go_wp2_with fail
    go_loop [10, 11] (fun nv iv => ∃ i : Nat, i ≤ n ∧ iv = .int .i64 ((i : Int) - 1) ∧ ∃ V : Nat, nv = .int .u64 (V : Int) ∧ Hid (V = Pl.acc (rdTo M a 8 n) i (n - i))) (fun _ iv => (intOf iv + 1).toNat)
    case atStart => exact ⟨n, Nat.le_refl _, rfl, 0, rfl, by show 0 = _; rw [Nat.sub_self]; rfl⟩
    case round =>
      obtain ⟨i, hi, rfl, V, rfl, HV⟩ := hrel
      cases i with
      | zero =>
        obtain ⟨x0, x1, f0, f1⟩ := HX3.out.cells
        obtain ⟨y0, y1, _, _⟩ := HF3.out.cells
        go_wp2_with fail
        go_region_held3 (fun w' => w'.cell? ⟨w1.heap.size, 0, none⟩ = some (.int .i64 0) ∧ w'.cell? ⟨w1.heap.size, 1, none⟩ = some (.int .u64 0)) (go_keep) (fail)
        go_wp2_with fail
        obtain ⟨d0, d1, _⟩ := BoxG.cells (w := ((w3.setCell ⟨w.heap.size, 0, none⟩ (.int .i64 0)).setCell ⟨w.heap.size, 1, none⟩ (.int .u64 0)).drew) (HX3.out.set 0 0)
        refine bodyPost_ret (v := .tuple #[.int .u64 (V : Int), .agg #[.int .i64 0, .int .u64 0]]) (by simp [results, Tryz.results87, go_sem, d0, d1]) rfl ?_
        have hk2 : Keeps (fun j => j = w.heap.size) w3 (((w3.setCell ⟨w.heap.size, 0, none⟩ (.int .i64 0)).setCell ⟨w.heap.size, 1, none⟩ (.int .u64 0)).drew) := (Keeps.two w3 w.heap.size (.int .i64 0) (.int .u64 0)).drew
        have hb13 : Below w1.heap.size w1 w3 := HB2.out.trans (HB3.out.mono HB2.out.size)
        refine ⟨0, false, HOff.out, ?_, (HM1.out.below hb13).keeps hk2 HX3.out.notVB, (HK1.out.trans (Keeps.of_below (S := fun _ => False) hb13) (fun _ _ h => h.elim)).trans hk2 (fun i hi e => absurd e (by omega))⟩
        rw [num_rdTo M a n hn8, HV.out]
        rfl
      | succ i =>
        have hc := HP3.out.cell i (by omega)
        have hzb := HM3.out (a + i)
        have hV : V ≤ 72057594037927935 := by
          have h1 := Pl.acc_lt (rdTo_small HM3.out a 8 n) (i + 1) (n - (i + 1))
          have h2 : 256 ^ (n - (i + 1)) ≤ 256 ^ 7 := Nat.pow_le_pow_right (by omega) (by omega)
          rw [← HV.out] at h1
          have h3 : (256 : Nat) ^ 7 = 72057594037927936 := rfl
          omega
        have HV2 : Hid (V * 256 + M (a + i) = Pl.acc (rdTo M a 8 n) i (n - i)) := by
          show _ = _
          rw [show n - i = n - (i + 1) + 1 by omega]
          show _ = (rdTo M a 8 n).getD i 0 + 256 * Pl.acc (rdTo M a 8 n) (i + 1) (n - (i + 1))
          rw [← HV.out, rdTo_get, if_pos (by omega)]
          omega
        have hin : (i : Int) < (n : Int) := by omega
        generalize M (a + i) = z at hc hzb HV2
        rw [show (((i + 1 : Nat) : Int) - 1) = (i : Int) by omega]
        go_wp2_with fail
        go_round
        case rel => exact ⟨i, by omega, by go_num, V * 256 + z, by go_num, HV2⟩
        case measure => simp [intOf]
end Go.Proofs.YtfnikcjcgneboaaGreat
/- The document's own machine with pages: its Load of any width. Own work. -/
namespace Go.Proofs.YtfnikcjcgneboaaGreat
open Go.RowKit Go.Maps Go.Proofs.YtfnikcjcgneboaaGreat.Sp Wk
set_option maxRecDepth 100000 in
set_option maxHeartbeats 4000000 in
theorem rload_at {w : World} {base m : Nat} {vr vd vp : Value} {ps : List (Int × Nat)} {M : Nat → Nat} {rs ds : List Sp} {L S X a n : Nat} (h : RM w base m vr vd vp ps M L S X) (hw : Wide n) (hr : U64.SV w vr rs) (hd : U64.SV w vd ds) (hs : Sane (rs ++ ds)) (hl : rs.length + ds.length ≤ 64) (ha : a ≤ 18446744073709551615) (hX : X ≤ 4611686018427387904) (hL : L ≤ 4611686018427387904) :
    Calls Tryz.prog 58 #[.pointer (some ⟨m, 0, none⟩), .int .u64 (a : Int), .int .i64 (n : Int)] w (RPkM w base m vr vd vp ps M (rs ++ ds) L S X a n (fun b => if b then 0 else 1)) := by
  have HA : Hid (∀ W, Below w.heap.size w W → Calls Tryz.prog 87 #[.pointer (some ⟨m, 0, none⟩), .int .u64 (a : Int), .int .i64 (n : Int)] W (RPkM W base m vr vd vp ps M (rs ++ ds) L S X a n (fun _ => 0))) := fun W hW => rpeek_at (h.below hW) hw (hr.below hW (Nat.le_refl _)) (hd.below hW (Nat.le_refl _)) hs hl ha hX
  generalize rs ++ ds = LL at *
  have hml := h.2.1.lt
  clear h hr hd hs hl hw
  go_enter Tryz.func58, Tryz.ntmps58
  go_wp2_with fail
  refine (HA.out _ ((Below.refl _ _).alloc (Nat.le_refl _) _)).mono ?_
  rintro e w1 ⟨x, b, ho, rfl, hm1, hk1⟩
  have HOff : Hid (OffR LL a n x b) := ho
  have HX1 : Hid (BoxG w1 w.heap.size 0 0) := (BoxG.new w 0 0).keeps hk1 (show ¬ w.heap.size = m by omega)
  have HM1 : Hid (RM w1 base m vr vd vp ps M L S (up b X)) := hm1
  have HK1 : Hid (Keeps (fun j => j = m) w w1) := (Keeps.alloc (S := fun j => j = m) w _).trans hk1 (fun _ _ e => e)
  obtain ⟨x0, x1, f0, f1⟩ := HX1.out.cells
  have hml1 := HM1.out.2.1.lt
  have hne : w.heap.size ≠ w1.heap.size := Nat.ne_of_lt HX1.out.lt
  have hlt1 := HX1.out.lt
  have c3 := fun X => U64.cell_alloc' X HM1.out.2.1.cells.2.2.2.1
  have g3 := fun X : Obj => (HM1.out.2.1.below ((Below.refl _ _).alloc (Nat.le_refl _) X)).thawed 3
  clear ho hm1 hk1 HA
  unfold FaultV
  cases b with
  | true =>
    simp only [if_true]
    go_wp2_with fail
    obtain ⟨W2, hW2⟩ : ∃ W2, w1.alloc (Obj.cells #[.int .i64 30, .int .u64 x] 41) = W2 := ⟨_, rfl⟩
    have HF2 : Hid (BoxG W2 w1.heap.size 30 x) := hW2 ▸ BoxG.new w1 30 x
    have HX2 : Hid (BoxG W2 w.heap.size 0 0) := hW2 ▸ HX1.out.below ((Below.refl _ _).alloc (Nat.le_refl _) _)
    have HB2 : Hid (Below w1.heap.size w1 W2) := hW2 ▸ (Below.refl _ _).alloc (Nat.le_refl _) _
    rw [hW2]
    obtain ⟨x0, x1, f0, f1⟩ := HX2.out.cells
    obtain ⟨y0, y1, _, _⟩ := HF2.out.cells
    clear hW2 c3 g3
    go_region_held3 (fun w' => w'.cell? ⟨w1.heap.size, 0, none⟩ = some (.int .i64 30) ∧ w'.cell? ⟨w1.heap.size, 1, none⟩ = some (.int .u64 x)) (go_keep) (fail)
    go_wp2_with fail
    obtain ⟨d0, d1, _⟩ := BoxG.cells (w := ((W2.setCell ⟨w.heap.size, 0, none⟩ (.int .i64 30)).setCell ⟨w.heap.size, 1, none⟩ (.int .u64 x)).drew) (HX2.out.set 30 x)
    refine bodyPost_ret (v := .tuple #[.int .u64 0, .agg #[.int .i64 30, .int .u64 x]]) (by simp [results, Tryz.results58, go_sem, d0, d1]) rfl ?_
    have hk2 : Keeps (fun j => j = w.heap.size) W2 (((W2.setCell ⟨w.heap.size, 0, none⟩ (.int .i64 30)).setCell ⟨w.heap.size, 1, none⟩ (.int .u64 x)).drew) := (Keeps.two W2 w.heap.size (.int .i64 30) (.int .u64 x)).drew
    exact ⟨x, true, HOff.out, rfl, (HM1.out.below HB2.out).keeps hk2 HX2.out.notVB, (HK1.out.trans (Keeps.of_below (S := fun _ => False) HB2.out) (fun _ _ h => h.elim)).trans hk2 (fun i hi e => absurd e (by omega))⟩
  | false =>
    simp only [Bool.false_eq_true, if_false]
    obtain ⟨V, hV⟩ : ∃ V : Nat, V = Pl.num 8 (rdTo M a 8 n) := ⟨_, rfl⟩
    rw [← hV]
    have HV := Lib.hid hV
    clear hV
    go_wp2_with fail
    obtain ⟨W2, hW2⟩ : ∃ W2, (w1.setCell ⟨m, 3, none⟩ (.int .i64 ((L : Int) + 1))).alloc (Obj.cells #[.int .i64 0, .int .u64 x] 41) = W2 := ⟨_, rfl⟩
    have HF2 : Hid (BoxG W2 w1.heap.size 0 x) := by rw [← hW2]; exact heap_alloc_newN (by simp [World.setCell]) _
    have HX2 : Hid (BoxG W2 w.heap.size 0 0) := by rw [← hW2]; exact (HX1.out.keeps (Keeps.setCell _ _ _ _) (by omega)).below ((Below.refl _ _).alloc (Nat.le_refl _) _)
    have HK2 : Hid (Keeps (fun j => j = m) w1 W2) := by rw [← hW2]; exact (Keeps.setCell _ _ _ _).trans (Keeps.alloc (S := fun j => j = m) _ _) (fun _ _ e => e)
    have HM2 : Hid (RM W2 base m vr vd vp ps M (L + 1) S X) := by
      rw [← hW2]
      refine ((HM1.out.box (Keeps.setCell w1 m 3 (.int .i64 ((L : Int) + 1))) ?_).1).below ((Below.refl _ _).alloc (Nat.le_refl _) _)
      have h1 : w1.heap[m]? = _ := HM1.out.2.1
      simp [RBox, World.setCell, Array.getElem?_modify, h1, up]
    rw [hW2]
    obtain ⟨x0, x1, f0, f1⟩ := HX2.out.cells
    obtain ⟨y0, y1, _, _⟩ := HF2.out.cells
    clear hW2 c3 g3
    go_region_held3 (fun w' => w'.cell? ⟨w1.heap.size, 0, none⟩ = some (.int .i64 0) ∧ w'.cell? ⟨w1.heap.size, 1, none⟩ = some (.int .u64 x)) (go_keep) (fail)
    go_wp2_with fail
    obtain ⟨d0, d1, _⟩ := BoxG.cells (w := ((W2.setCell ⟨w.heap.size, 0, none⟩ (.int .i64 0)).setCell ⟨w.heap.size, 1, none⟩ (.int .u64 x)).drew) (HX2.out.set 0 x)
    refine bodyPost_ret (v := .tuple #[.int .u64 (V : Int), .agg #[.int .i64 0, .int .u64 x]]) (by simp [results, Tryz.results58, go_sem, d0, d1]) rfl ?_
    have hk2 : Keeps (fun j => j = w.heap.size) W2 (((W2.setCell ⟨w.heap.size, 0, none⟩ (.int .i64 0)).setCell ⟨w.heap.size, 1, none⟩ (.int .u64 x)).drew) := (Keeps.two W2 w.heap.size (.int .i64 0) (.int .u64 x)).drew
    refine ⟨x, false, HOff.out, ?_, HM2.out.keeps hk2 HX2.out.notVB, (HK1.out.trans HK2.out (fun _ _ e => e)).trans hk2 (fun i hi e => absurd e (by omega))⟩
    rw [HV.out]
    rfl
end Go.Proofs.YtfnikcjcgneboaaGreat
