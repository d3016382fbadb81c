import Derived.Test.YtddgoncbdlhhhaaGreatR26
import Derived.Deep.RegionHeld3
/- The document's own bytes, of however many. Own work. -/
namespace Go.Proofs.YtddgoncbdlhhhaaGreat
open Go.RowKit Go.Maps Go.Proofs.YtddgoncbdlhhhaaGreat.Sp Wk
set_option maxRecDepth 100000 in
set_option maxHeartbeats 4000000 in
theorem rbytes_n {w : World} {base v : Nat} {vr vd vp : Value} {ps : List (Int × Nat)} {M : Nat → Nat} {L S X a n : Nat} (h : RM w base v vr vd vp ps M L S X) (hn : n ≤ 1099511627776) (ha : 0 < n → a + n ≤ 4294967400) :
    Calls Tryz.prog 51 #[.pointer (some ⟨v, 0, none⟩), .int .u64 (a : Int), .int .i64 (n : Int)] w fun e w' => e = .returned (.slice (some ⟨w.heap.size, 0, none⟩) n n) ∧ P8 w' w.heap.size n (fun i => M (a + i)) ∧ Below w.heap.size w w' := by
  obtain ⟨i, hi, hz0, hz1, hz2⟩ := info_parts info_byte
  have HR := Lib.hid h
  have hvl := h.2.1.lt
  clear h
  go_enter Tryz.func51, Tryz.ntmps51
  go_wp2_with (at_make; refine wpList_make_full _ rfl _ _ 27 rfl w.heap.size 5 i (.int .u8 0) 1 Tryz.underlying27 hi hz0 hz1 _ _ _ _ n rfl rfl (by omega) (by omega) (by rw [hz2]; omega) (by simp only [maxLen]; omega) (by simp) ?_)
  intro w1 hown hgrow
  have HB1 : Hid (Below w.heap.size w w1) := (Below.refl _ _).grown hgrow (by simp) (by simp)
  have HP1 : Hid (P8 w1 w.heap.size n (fB M a 0)) := by
    rcases hown.2 with ⟨hc, _⟩ | ⟨g', cap, cur, hv, _, hg, _, _, hs, ht⟩
    · cases hc
    · cases hv
      refine ⟨cur, hg, fun k hk => ?_⟩
      have e : (fB M a 0 k : Nat) = 0 := rfl
      rw [e, ← Array.getElem?_toList]
      have h0 : (cur.toList.take (n * 1))[k]? = some (.int .u8 ((0 : Nat) : Int)) := by
        rw [ht]
        simp [madeCells, hk, Nat.mod_one]
      rw [List.getElem?_take_of_lt (by omega)] at h0
      exact h0
  clear hown hgrow hi hz0 hz1 hz2
  go_wp2_with fail
  go_loopw [8] (fun iv wr => ∃ i : Nat, i ≤ n ∧ iv = .int .i64 (i : Int) ∧ Hid (P8 wr w.heap.size n (fB M a i) ∧ Below w.heap.size w wr)) (fun iv _ => n - (intOf iv).toNat)
  case atStart => exact ⟨0, Nat.zero_le _, rfl, HP1.out, HB1.out⟩
  case round =>
    obtain ⟨i, hi, rfl, HP⟩ := hrel
    by_cases hlt : i < n
    · have HRw : Hid (RM wr base v vr vd vp ps M L S X) := HR.out.below HP.out.2
      have qi : (i : Int) < (n : Int) := by omega
      have hai : (a : Int) + (i : Int) ≤ 18446744073709551615 := by omega
      obtain ⟨fr, hfr, hfr2⟩ : ∃ fr : Nat, ((a : Int) + (i : Int)) % 4096 = (fr : Int) ∧ fr < 4096 := ⟨(a + i) % 4096, by omega, by omega⟩
      obtain ⟨pg, hpg⟩ : ∃ pg : Nat, ((a : Int) + (i : Int)) / 4096 = (pg : Int) := ⟨(a + i) / 4096, by omega⟩
      have hw1 : IntKind.u64.wrap ((a : Int) + (i : Int)) = (a : Int) + (i : Int) := by rw [IntKind.wrap_u64]; omega
      have HF : Hid (Calls Tryz.prog 87 #[.pointer (some ⟨v, 0, none⟩), .int .u64 (pg : Int)] wr fun e w' => ∃ j : Int, e = .returned (.int .i64 j) ∧ Hid ((j = -1 ∧ ∀ x ∈ ps, x.1 ≠ (pg : Int)) ∨ ∃ i : Nat, j = (i : Int) ∧ ∃ hi : i < ps.length, (ps[i]'hi).1 = (pg : Int)) ∧ wr = w') := rfind_at HRw.out.rs (by have := HRw.out.pn.len; omega)
      obtain ⟨k, hk1, hk2, hk3, hkk⟩ : ∃ k : Nat, 1 ≤ k ∧ k ≤ n - i ∧ k + fr ≤ 4096 ∧ Hid ((decide ((k : Int) < 4096 - (fr : Int)) = true ∧ (n : Int) - (i : Int) = (k : Int)) ∨ (decide ((n : Int) - (i : Int) < (k : Int)) = false ∧ (4096 : Int) - (fr : Int) = (k : Int))) := by
        by_cases hc : n - i < 4096 - fr
        · exact ⟨n - i, by omega, by omega, by omega, .inl ⟨by simp; omega, by omega⟩⟩
        · exact ⟨4096 - fr, by omega, by omega, by omega, .inr ⟨by simp; omega, by omega⟩⟩
      go_upto_if 30 with fail
      go_cut [10] (fun s wx => s = .int .i64 (k : Int) ∧ wx = wr)
      case first =>
        rcases hkk.out with ⟨hci, hk⟩ | ⟨hci, hk⟩
        · have hcp : (n : Int) - (i : Int) < 4096 - (fr : Int) := by rw [hk]; exact of_decide_eq_true hci
          clear hci
          rw [hk] at hcp
          go_wp2_with fail
          go_meet
          exact ⟨rfl, rfl⟩
        · have hcp : ¬ (n : Int) - (i : Int) < (k : Int) := of_decide_eq_false hci
          clear hci
          go_wp2_with fail
          go_meet
          exact ⟨rfl, rfl⟩
      case rest =>
        obtain ⟨rfl, rfl⟩ := hcut
        clear hkk
        go_wp2_with fail
        refine HF.out.mono ?_
        rintro e w1 ⟨j, rfl, hj, rfl⟩
        clear HF
        rcases hj.out with ⟨rfl, hjx⟩ | ⟨jj, rfl, hjj, hjp⟩
        · clear hj
          have HZ : Hid (P8 wc w.heap.size n (fB M a (i + k))) := HP.out.1.congr fun x _ => by
            unfold fB
            by_cases e1 : x < i
            · rw [if_pos e1, if_pos (by omega)]
            · rw [if_neg e1]
              by_cases e2 : x < i + k
              · rw [if_pos e2, HRw.out.2.2.2.2.2.2.2 _ fun y hy => ?_]
                have := hjx y hy
                intro e
                exact this (e.trans (by omega))
              · rw [if_neg e2]
          clear hjx
          go_wp2_with fail
          refine wp_loop_rounds 1 ?_
          rw [rounds_succ]
          go_wp2_with fail
          refine ⟨⟨i + k, by omega, by go_num, HZ.out, HP.out.2⟩, by simp [intOf]; omega⟩
        · clear hj
          have HJ : Hid (∃ hi : jj < ps.length, (ps[jj]'hi).1 = (pg : Int)) := ⟨hjj, hjp⟩
          clear hjj hjp
          have jj0 : (0 : Int) ≤ (jj : Int) := Int.natCast_nonneg _
          go_wp2_with fail
          go_loopw [12] (fun qv wq => ∃ q : Nat, q ≤ k ∧ qv = .int .i64 (q : Int) ∧ Hid (P8 wq w.heap.size n (fB M a (i + q)) ∧ Below w.heap.size w wq)) (fun qv _ => k - (intOf qv).toNat)
          case atStart => exact ⟨0, Nat.zero_le _, rfl, HP.out⟩
          case round =>
            clear HP HRw
            obtain ⟨q, hq, rfl, HQ⟩ := hrel
            by_cases hqk : q < k
            · have qki : (q : Int) < (k : Int) := by omega
              have HRq : Hid (RM wr base v vr vd vp ps M L S X) := HR.out.below HQ.out.2
              obtain ⟨c0, c1, c2, _⟩ := HRq.out.2.1.cells
              obtain ⟨a1, cc, hvp, hc1, hc2, _⟩ := HRq.out.2.2.1.form
              unfold maxLen at hc2
              obtain ⟨n1, hn1'⟩ : ∃ n1, n1 = ps.length := ⟨_, rfl⟩
              have HN1 : Hid (n1 = ps.length) := hn1'
              rw [← hn1'] at hvp hc1
              have hjn : jj < n1 := by rw [HN1.out]; exact HJ.out.1
              subst hvp
              clear hn1'
              obtain ⟨g, rfl, d0, cq, d1⟩ := HRq.out.2.2.1.cell jj HJ.out.1
              obtain ⟨X0, hX0⟩ : ∃ X0, X0 = ps[jj]'HJ.out.1 := ⟨_, rfl⟩
              rw [← hX0] at d0 d1
              have HXM : Hid (X0 ∈ ps) := hX0 ▸ List.getElem_mem HJ.out.1
              have HX1 : Hid (X0.1 = (pg : Int)) := hX0 ▸ HJ.out.2
              clear hX0
              obtain ⟨_, hxu⟩ := HRq.out.2.2.2.1 X0 HXM.out
              generalize X0.2 = x at d1 hxu
              have HXU := Lib.hid hxu
              clear hxu
              obtain ⟨s, hs, hs2⟩ : ∃ s : Nat, (i : Int) + (q : Int) = (s : Int) ∧ s < n := ⟨i + q, by omega, by omega⟩
              obtain ⟨t, ht, ht2⟩ : ∃ t : Nat, (fr : Int) + (q : Int) = (t : Int) ∧ t < 4096 := ⟨fr + q, by omega, by omega⟩
              have hcy := HXU.out.cell t ht2
              rw [show X0.1.toNat * 4096 + t = a + s by rw [HX1.out]; omega] at hcy
              obtain ⟨y, hcz⟩ : ∃ y : Nat, wr.cell? ⟨w.heap.size, s, none⟩ = some (.int .u8 (y : Int)) := ⟨_, HQ.out.1.cell s hs2⟩
              have hfz := HQ.out.1.thawed s
              have HW : Hid (P8 (wr.setCell ⟨w.heap.size, s, none⟩ (.int .u8 ((M (a + s) : Nat) : Int))) w.heap.size n (fB M a (i + (q + 1))) ∧ Below w.heap.size w (wr.setCell ⟨w.heap.size, s, none⟩ (.int .u8 ((M (a + s) : Nat) : Int)))) := by
                rw [show i + (q + 1) = s + 1 by omega]
                exact ⟨P8.step (by rw [show s = i + q by omega]; exact HQ.out.1), HQ.out.2.setCell (Nat.le_refl _) _⟩
              generalize M (a + s) = z at hcy HW
              go_wp2_with fail
              exact ⟨⟨q + 1, by omega, by go_num, HW⟩, by simp [intOf]; omega⟩
            · obtain rfl : q = k := by omega
              go_wp2_with fail
              exact ⟨⟨i + q, by omega, by go_num, HQ.out⟩, by simp [intOf]; omega⟩
    · obtain rfl : i = n := by omega
      go_wp2_with fail
      go_ret
      exact ⟨rfl, HP.out.1.congr fun x hx => by unfold fB; rw [if_pos hx], HP.out.2⟩
end Go.Proofs.YtddgoncbdlhhhaaGreat
/- The document's own machine: its Read, of however many bytes. Own work. -/
namespace Go.Proofs.YtddgoncbdlhhhaaGreat
open Go.RowKit Go.Maps Go.Proofs.YtddgoncbdlhhhaaGreat.Sp Wk
/-- what the document's own Read does -/
def RRdN (w : World) (base v : Nat) (vr vd vp : Value) (ps : List (Int × Nat)) (M : Nat → Nat) (LL : List Sp) (L S X a n : Nat) (e : Ending) (w' : World) : Prop :=
  ∃ x b sl, OffR LL a n x b ∧ e = .returned (.tuple #[sl, FaultV (if b then 30 else 0) x]) ∧ RM w' base v vr vd vp ps M L S (up b X) ∧ Keeps (fun j => j = v) w w' ∧ (b = true → sl = .slice none 0 0) ∧ (b = false → ∃ g, sl = .slice (some ⟨g, 0, none⟩) n n ∧ w.heap.size ≤ g ∧ P8 w' g n (fun i => M (a + i)))
set_option maxRecDepth 100000 in
set_option maxHeartbeats 4000000 in
theorem rread_n {w : World} {base v : Nat} {vr vd vp : Value} {ps : List (Int × Nat)} {M : Nat → Nat} {rs ds : List Sp} {L S X a n : Nat} (h : RM w base v vr vd vp ps M L S X) (hn : n ≤ 9223372036854775807) (hr : U64.SV w vr rs) (hd : U64.SV w vd ds) (hs : Sane (rs ++ ds)) (hll : rs.length + ds.length ≤ 64) (ha : a ≤ 18446744073709551615) (hX : X ≤ 4611686018427387904) :
    Calls Tryz.prog 55 #[.pointer (some ⟨v, 0, none⟩), .int .u64 (a : Int), .int .i64 (n : Int)] w (RRdN w base v vr vd vp ps M (rs ++ ds) L S X a n) := by
  have HR := Lib.hid h
  have HAc : Hid (∀ W, Below w.heap.size w W → Calls Tryz.prog 50 #[.pointer (some ⟨v, 0, none⟩), .int .u64 (a : Int), .int .i64 (n : Int)] W (RAsk W v vr vd vp (rs ++ ds) L S X a n)) := fun W hW => raccess_any (h.2.1.below hW) (hr.below hW (Nat.le_refl _)) (hd.below hW (Nat.le_refl _)) hs hll ha hn hX
  have HS := Lib.hid hs
  have hvl := h.2.1.lt
  generalize rs ++ ds = LL at *
  clear h hr hd hs hll
  go_enter Tryz.func55, Tryz.ntmps55
  go_wp2_with fail
  refine (HAc.out _ ((Below.refl _ _).alloc (Nat.le_refl _) _)).mono ?_
  rintro e w1 ⟨x, b, ho, rfl, hm1, hk1⟩
  have HOff : Hid (OffR LL a n x b) := ho
  have HX1 : Hid (BoxG w1 w.heap.size 0 0) := (BoxG.new w 0 0).keeps hk1 (show ¬ w.heap.size = v by omega)
  have HK1 : Hid (Keeps (fun j => j = v) w w1) := (Keeps.alloc (S := fun j => j = v) w _).trans hk1 (fun _ _ e => e)
  have HM1 : Hid (RM w1 base v vr vd vp ps M L S (up b X)) := (HR.out.box HK1.out hm1).1
  have hne : w.heap.size ≠ w1.heap.size := Nat.ne_of_lt HX1.out.lt
  have hlt1 := HX1.out.lt
  clear ho hm1 hk1 HAc HR
  unfold FaultV
  cases b with
  | true =>
    simp only [if_true]
    go_wp2_with fail
    obtain ⟨W2, hW2⟩ : ∃ W2, w1.alloc (Obj.cells #[.int .i64 30, .int .u64 x] 75) = W2 := ⟨_, rfl⟩
    have HF2 : Hid (BoxG W2 w1.heap.size 30 x) := hW2 ▸ BoxG.new w1 30 x
    have HX2 : Hid (BoxG W2 w.heap.size 0 0) := hW2 ▸ HX1.out.below ((Below.refl _ _).alloc (Nat.le_refl _) _)
    have HB2 : Hid (Below w1.heap.size w1 W2) := hW2 ▸ (Below.refl _ _).alloc (Nat.le_refl _) _
    rw [hW2]
    obtain ⟨x0, x1, f0, f1⟩ := HX2.out.cells
    obtain ⟨y0, y1, _, _⟩ := HF2.out.cells
    clear hW2
    go_region_held3 (fun w' => w'.cell? ⟨w1.heap.size, 0, none⟩ = some (.int .i64 30) ∧ w'.cell? ⟨w1.heap.size, 1, none⟩ = some (.int .u64 x)) (go_keep) (fail)
    go_wp2_with fail
    obtain ⟨d0, d1, _⟩ := BoxG.cells (w := ((W2.setCell ⟨w.heap.size, 0, none⟩ (.int .i64 30)).setCell ⟨w.heap.size, 1, none⟩ (.int .u64 x)).drew) (HX2.out.set 30 x)
    refine bodyPost_ret (v := .tuple #[.slice none 0 0, .agg #[.int .i64 30, .int .u64 x]]) (by simp [results, Tryz.results55, go_sem, d0, d1]) rfl ?_
    have hk2 : Keeps (fun j => j = w.heap.size) W2 (((W2.setCell ⟨w.heap.size, 0, none⟩ (.int .i64 30)).setCell ⟨w.heap.size, 1, none⟩ (.int .u64 x)).drew) := (Keeps.two W2 w.heap.size (.int .i64 30) (.int .u64 x)).drew
    exact ⟨x, true, _, HOff.out, rfl, (HM1.out.below HB2.out).keeps hk2 HX2.out.notVB, (HK1.out.trans (Keeps.of_below (S := fun _ => False) HB2.out) (fun _ _ h => h.elim)).trans hk2 (fun i hi e => absurd e (by omega)), fun _ => rfl, fun h => absurd h (by decide)⟩
  | false =>
    simp only [Bool.false_eq_true, if_false]
    obtain ⟨hx0, hon⟩ := HOff.out.2 rfl
    subst hx0
    have hle : 0 < n → a + n ≤ 4294967400 := fun h0 => by
      obtain ⟨m, rfl⟩ : ∃ m, n = m + 1 := ⟨n - 1, by omega⟩
      obtain ⟨r, hr, h1, h2⟩ := hon m (by omega)
      have := HS.out r hr
      omega
    have hn40 : n ≤ 1099511627776 := by
      by_cases h0 : 0 < n
      · have := hle h0
        omega
      · omega
    clear hon
    go_wp2_with fail
    obtain ⟨W2, hW2⟩ : ∃ W2, w1.alloc (Obj.cells #[.int .i64 0, .int .u64 0] 75) = W2 := ⟨_, rfl⟩
    have HF2 : Hid (BoxG W2 w1.heap.size 0 0) := hW2 ▸ BoxG.new w1 0 0
    have HX2 : Hid (BoxG W2 w.heap.size 0 0) := hW2 ▸ HX1.out.below ((Below.refl _ _).alloc (Nat.le_refl _) _)
    have HB2 : Hid (Below w1.heap.size w1 W2) := hW2 ▸ (Below.refl _ _).alloc (Nat.le_refl _) _
    try rw [hW2]
    have HBy : Hid (∀ W, Below W2.heap.size W2 W → Calls Tryz.prog 51 #[.pointer (some ⟨v, 0, none⟩), .int .u64 (a : Int), .int .i64 (n : Int)] W fun e w' => e = .returned (.slice (some ⟨W.heap.size, 0, none⟩) n n) ∧ P8 w' W.heap.size n (fun i => M (a + i)) ∧ Below W.heap.size W w') := fun W hW => rbytes_n (n := n) (a := a) ((HM1.out.below HB2.out).below hW) hn40 hle
    clear hW2
    have HBd : Hid (Below W2.heap.size W2 W2.drew) := (Below.refl _ _).drew
    obtain ⟨y0, y1, _, _⟩ := HF2.out.cells
    obtain ⟨x0, x1, f0, f1⟩ := HX2.out.cells
    have HS0 : Hid (∀ W, Below W2.heap.size W2 W → W.cell? ⟨w1.heap.size, 0, none⟩ = some (.int .i64 0) ∧ W.cell? ⟨w1.heap.size, 1, none⟩ = some (.int .u64 0)) := fun W hW => by
      obtain ⟨a0, a1, _, _⟩ := (HF2.out.below hW).cells
      exact ⟨a0, a1⟩
    clear y0 y1 x0 x1 f0 f1
    go_region_held3 (fun W => W.cell? ⟨w1.heap.size, 0, none⟩ = some (.int .i64 0) ∧ W.cell? ⟨w1.heap.size, 1, none⟩ = some (.int .u64 0)) (first | exact HS3.out | exact HS0.out _ HBd.out | go_keep) (first | (go_at_call 51; refine (HBy.out _ HBd.out).mono ?_; rintro e w3 ⟨rfl, hp3, hb3⟩; have HB3 : Hid (Below W2.heap.size W2 w3) := HBd.out.trans (hb3.mono HBd.out.size); have HP3 := Lib.hid hp3; have HS3 := Lib.hid (HS0.out _ HB3.out); have HX3 := Lib.hid (HX2.out.below HB3.out); obtain ⟨x0, x1, f0, f1⟩ := HX3.out.cells; obtain ⟨y0, y1⟩ := HS3.out; clear hb3 hp3))
    all_goals
      go_wp2_with fail
      obtain ⟨d0, d1, _⟩ := (HX3.out.set 0 0).cells
      refine bodyPost_ret (v := .tuple #[.slice (some ⟨W2.heap.size, 0, none⟩) n n, .agg #[.int .i64 0, .int .u64 0]]) (by simp [results, Tryz.results55, go_sem, d0, d1]) rfl ?_
      have hk2 := Keeps.two w3 w.heap.size (.int .i64 0) (.int .u64 0)
      have hb13 : Below w1.heap.size w1 w3 := HB2.out.trans (HB3.out.mono HB2.out.size)
      have hw2 : w.heap.size < W2.heap.size := by have := HB2.out.size; omega
      exact ⟨0, false, _, HOff.out, rfl, (HM1.out.below hb13).keeps hk2 HX3.out.notVB, (HK1.out.trans (Keeps.of_below (S := fun _ => False) hb13) (fun _ _ h => h.elim)).trans hk2 (fun i hi e => absurd e (by omega)), fun h => absurd h (by decide), fun _ => ⟨W2.heap.size, rfl, by omega, HP3.out.keeps hk2 (show ¬ W2.heap.size = w.heap.size by omega)⟩⟩
end Go.Proofs.YtddgoncbdlhhhaaGreat
/- The document's own machine: its Fill, of however many bytes. Own work. -/
namespace Go.Proofs.YtddgoncbdlhhhaaGreat
open Go.RowKit Go.Maps Go.Proofs.YtddgoncbdlhhhaaGreat.Sp Wk
theorem addN_mem {l : List Int} {a : Nat} {x : Int} : ∀ {n : Nat}, x ∈ addN l a n → x ∈ l ∨ ∃ i, i < n ∧ x = (((a + i) / 4096 : Nat) : Int)
  | 0, h => .inl h
  | n + 1, h => by
    have h : x ∈ addP (addN l a n) (((a + n) / 4096 : Nat) : Int) := h
    unfold addP at h
    split at h
    · rcases addN_mem h with h | ⟨i, hi, e⟩
      · exact .inl h
      · exact .inr ⟨i, by omega, e⟩
    · rcases List.mem_append.1 h with h | h
      · rcases addN_mem h with h | ⟨i, hi, e⟩
        · exact .inl h
        · exact .inr ⟨i, by omega, e⟩
      · exact .inr ⟨n, by omega, List.mem_singleton.1 h⟩
/-- the pages are those that were there, or lie where n bytes from a on lie -/
def PgN (ps ps' : List (Int × Nat)) (a n : Nat) : Prop := ∀ x ∈ ps'.map Prod.fst, x ∈ ps.map Prod.fst ∨ ∃ i, i < n ∧ x = (((a + i) / 4096 : Nat) : Int)
/-- lay of one value, whatever it is -/
theorem rlay_w {w : World} {base v : Nat} {vr vd vp : Value} {ps : List (Int × Nat)} {M : Nat → Nat} {L S X a n val : Nat} (h : RM w base v vr vd vp ps M L S X) (hb : base ≤ w.heap.size) (hval : val < 256) (hn : n ≤ 1099511627776) (ha : 0 < n → a + n ≤ 4294967400) :
    Calls Tryz.prog 54 #[.pointer (some ⟨v, 0, none⟩), .int .u64 (a : Int), .slice none 0 0, .int .i64 (n : Int), .int .u8 (val : Int)] w fun e w' => e = .returned (.tuple #[]) ∧ ∃ vp' ps', RM w' base v vr vd vp' ps' (putAt M a (List.replicate n val)) L S X ∧ Kf v vp ps w vp' ps' w' ∧ PgN ps ps' a n := by
  by_cases h0 : val = 0
  · subst h0
    refine (rlay_z h hn ha).mono ?_
    rintro e w' ⟨rfl, h1, h2⟩
    exact ⟨rfl, vp, ps, h1, h2, fun x hx => .inl hx⟩
  · refine (rlay_v (val := val) h hb ⟨by omega, hval⟩ hn ha).mono ?_
    rintro e w' ⟨rfl, vp', ps', h1, h2, h3⟩
    exact ⟨rfl, vp', ps', h1, h2, fun x hx => addN_mem (h3 ▸ hx)⟩
/-- what the document's own Fill and Write do -/
def RFiN (w : World) (base v : Nat) (vr vd vp : Value) (ps : List (Int × Nat)) (M : Nat → Nat) (LL : List Sp) (L S X a n : Nat) (zs : List Nat) (e : Ending) (w' : World) : Prop :=
  ∃ x b, OffR LL a n x b ∧ e = .returned (FaultV (if b then 30 else 0) x) ∧ (b = true → RM w' base v vr vd vp ps M L S (X + 1) ∧ Keeps (fun j => j = v) w w') ∧ (b = false → ∃ vp' ps', RM w' base v vr vd vp' ps' (putAt M a zs) L S X ∧ Kf v vp ps w vp' ps' w' ∧ PgN ps ps' a n)
set_option maxRecDepth 100000 in
set_option maxHeartbeats 4000000 in
theorem rfill_n {w : World} {base v : Nat} {vr vd vp : Value} {ps : List (Int × Nat)} {M : Nat → Nat} {rs ds : List Sp} {L S X a n val : Nat} (h : RM w base v vr vd vp ps M L S X) (hb : base ≤ w.heap.size) (hval : val < 256) (hn : n ≤ 9223372036854775807) (hr : U64.SV w vr rs) (hd : U64.SV w vd ds) (hs : Sane (rs ++ ds)) (hll : rs.length + ds.length ≤ 64) (ha : a ≤ 18446744073709551615) (hX : X ≤ 4611686018427387904) :
    Calls Tryz.prog 28 #[.pointer (some ⟨v, 0, none⟩), .int .u64 (a : Int), .int .i64 (n : Int), .int .u8 (val : Int)] w (RFiN w base v vr vd vp ps M (rs ++ ds) L S X a n (List.replicate n val)) := by
  have HR := Lib.hid h
  have HAc : Hid (∀ W, Below w.heap.size w W → Calls Tryz.prog 50 #[.pointer (some ⟨v, 0, none⟩), .int .u64 (a : Int), .int .i64 (n : Int)] W (RAsk W v vr vd vp (rs ++ ds) L S X a n)) := fun W hW => raccess_any (h.2.1.below hW) (hr.below hW (Nat.le_refl _)) (hd.below hW (Nat.le_refl _)) hs hll ha hn hX
  have HS := Lib.hid hs
  have hvl := h.2.1.lt
  generalize rs ++ ds = LL at *
  clear h hr hd hs hll
  go_enter Tryz.func28, Tryz.ntmps28
  go_wp2_with fail
  refine (HAc.out _ ((Below.refl _ _).alloc (Nat.le_refl _) _)).mono ?_
  rintro e w1 ⟨x, b, ho, rfl, hm1, hk1⟩
  have HOff : Hid (OffR LL a n x b) := ho
  have HX1 : Hid (BoxG w1 w.heap.size 0 0) := (BoxG.new w 0 0).keeps hk1 (show ¬ w.heap.size = v by omega)
  have HK1 : Hid (Keeps (fun j => j = v) w w1) := (Keeps.alloc (S := fun j => j = v) w _).trans hk1 (fun _ _ e => e)
  have HM1 : Hid (RM w1 base v vr vd vp ps M L S (up b X)) := (HR.out.box HK1.out hm1).1
  have hne : w.heap.size ≠ w1.heap.size := Nat.ne_of_lt HX1.out.lt
  have hlt1 := HX1.out.lt
  clear ho hm1 hk1 HAc HR
  unfold FaultV
  cases b with
  | true =>
    simp only [if_true]
    obtain ⟨x0, x1, f0, f1⟩ := HX1.out.cells
    go_wp2_with fail
    obtain ⟨d0, d1, _⟩ := ((HX1.out.set 30 x).below ((Below.refl _ _).alloc (Nat.le_refl _) (Obj.cells #[.int .i64 30, .int .u64 x] 75))).cells
    refine bodyPost_ret (v := .agg #[.int .i64 30, .int .u64 x]) (by simp [results, Tryz.results28, go_sem, d0, d1]) rfl ?_
    have hk2 := (Keeps.two w1 w.heap.size (.int .i64 30) (.int .u64 x)).trans (Keeps.alloc (S := fun _ => False) _ (Obj.cells #[.int .i64 30, .int .u64 x] 75)) (fun _ _ e => e.elim)
    exact ⟨x, true, HOff.out, rfl, fun _ => ⟨HM1.out.keeps hk2 HX1.out.notVB, HK1.out.trans hk2 (fun i hi e => absurd e (by omega))⟩, fun h => absurd h (by decide)⟩
  | false =>
    simp only [Bool.false_eq_true, if_false]
    obtain ⟨hx0, hon⟩ := HOff.out.2 rfl
    subst hx0
    have hle : 0 < n → a + n ≤ 4294967400 := fun h0 => by
      obtain ⟨m, rfl⟩ : ∃ m, n = m + 1 := ⟨n - 1, by omega⟩
      obtain ⟨r, hr, h1, h2⟩ := hon m (by omega)
      have := HS.out r hr
      omega
    have hn40 : n ≤ 1099511627776 := by
      by_cases h0 : 0 < n
      · have := hle h0
        omega
      · omega
    clear hon
    go_wp2_with fail
    obtain ⟨W2, hW2⟩ : ∃ W2, w1.alloc (Obj.cells #[.int .i64 0, .int .u64 0] 75) = W2 := ⟨_, rfl⟩
    have HF2 : Hid (BoxG W2 w1.heap.size 0 0) := hW2 ▸ BoxG.new w1 0 0
    have HX2 : Hid (BoxG W2 w.heap.size 0 0) := hW2 ▸ HX1.out.below ((Below.refl _ _).alloc (Nat.le_refl _) _)
    have HB2 : Hid (Below w1.heap.size w1 W2) := hW2 ▸ (Below.refl _ _).alloc (Nat.le_refl _) _
    rw [hW2]
    have HM2 : Hid (RM W2 base v vr vd vp ps M L S X) := HM1.out.below HB2.out
    have HLy := Lib.hid (rlay_w (val := val) (a := a) (n := n) HM2.out (by have := HB2.out.size; omega) hval hn40 hle)
    clear hW2
    refine HLy.out.mono ?_
    rintro e w3 ⟨rfl, vp', ps', hm3, hk3, hp3⟩
    have HF3 : Hid (BoxG w3 w1.heap.size 0 0) := HF2.out.keeps hk3.keeps (fun e => HF2.out.notVB _ (HM2.out.fo e) rfl)
    have HX3 : Hid (BoxG w3 w.heap.size 0 0) := HX2.out.keeps hk3.keeps (fun e => HX2.out.notVB _ (HM2.out.fo e) rfl)
    have HM3 := Lib.hid hm3
    have HK3 : Hid (Kf v vp ps w vp' ps' w3) := ((Kf.one HK1.out).trans (Kf.below HB2.out)).trans hk3
    have HP3 := Lib.hid hp3
    clear hm3 hk3 hp3 HLy
    obtain ⟨x0, x1, f0, f1⟩ := HX3.out.cells
    obtain ⟨y0, y1, _, _⟩ := HF3.out.cells
    go_wp2_with fail
    obtain ⟨d0, d1, _⟩ := (HX3.out.set 0 0).cells
    refine bodyPost_ret (v := .agg #[.int .i64 0, .int .u64 0]) (by simp [results, Tryz.results28, go_sem, d0, d1]) rfl ?_
    have hk2 := Keeps.two w3 w.heap.size (.int .i64 0) (.int .u64 0)
    exact ⟨0, false, HOff.out, rfl, fun h => absurd h (by decide), fun _ => ⟨vp', ps', HM3.out.keeps hk2 HX3.out.notVB, HK3.out.after hk2 (fun j hj e => by omega), HP3.out⟩⟩
end Go.Proofs.YtddgoncbdlhhhaaGreat
