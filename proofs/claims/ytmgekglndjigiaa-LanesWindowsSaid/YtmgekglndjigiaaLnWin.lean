/- LanesWindows: the walk. Own work. -/
import Derived.Test.YtmgekglndjigiaaLnWinM
import Derived.Test.YtmgekglndjigiaaLnGreat
import Derived.Test.YtmgekglndjigiaaLnSha
import Derived.Test.YtmgekglndjigiaaLnRuX
import Derived.Test.YtmgekglndjigiaaLnKnown
namespace Go.Proofs.Ytmgekglndjigiaa
open Go.RowKit
set_option linter.unusedVariables false
/-- the names that are counted -/
noncomputable def nmW (xs : List R4) (i : Nat) : List ByteArray := sN :: (xs.take i).map R4.s
theorem nmW_next (xs : List R4) (i : Nat) (h : i < xs.length) : nmW xs (i + 1) = nmW xs i ++ [xs[i].s] := by
  unfold nmW
  rw [List.take_succ_eq_append_getElem h, List.map_append]
  rfl
theorem nmW_len (xs : List R4) (i : Nat) (h : i ≤ xs.length) : (nmW xs i).length = i + 1 := by
  simp [nmW, Nat.min_eq_left h]
/-- how often a name runs in k ticks from f on -/
noncomputable def cW (rs : List S3) (f k : Nat) (s : ByteArray) : Nat := cnt (fun t => s.toList == (schedF (t : Int) rs).1.toList) f k
theorem cW_hit {rs : List S3} {f k : Nat} {s : ByteArray} (h : (s.toList == (schedF ((f + k : Nat) : Int) rs).1.toList) = true) : cW rs f (k + 1) s = cW rs f k s + 1 := by
  show cW rs f k s + (if (s.toList == (schedF ((f + k : Nat) : Int) rs).1.toList) = true then 1 else 0) = _
  rw [if_pos h]
theorem cW_miss {rs : List S3} {f k : Nat} {s : ByteArray} (h : (s.toList == (schedF ((f + k : Nat) : Int) rs).1.toList) = false) : cW rs f (k + 1) s = cW rs f k s := by
  show cW rs f k s + (if (s.toList == (schedF ((f + k : Nat) : Int) rs).1.toList) = true then 1 else 0) = _
  rw [if_neg (by rw [h]; decide)]
  rfl
/-- the counts, of which the first i are a tick ahead -/
noncomputable def ctW (rs : List S3) (nm : List ByteArray) (f k i : Nat) : List Nat := (nm.take i).map (cW rs f (k + 1)) ++ (nm.drop i).map (cW rs f k)
theorem ctW_len (rs : List S3) (nm : List ByteArray) (f k i : Nat) : (ctW rs nm f k i).length = nm.length := by
  simp only [ctW, List.length_append, List.length_map, List.length_take, List.length_drop]
  omega
theorem ctW_zero (rs : List S3) (nm : List ByteArray) (f k : Nat) : ctW rs nm f k 0 = nm.map (cW rs f k) := by simp [ctW]
theorem ctW_end (rs : List S3) (nm : List ByteArray) (f k : Nat) : ctW rs nm f k nm.length = nm.map (cW rs f (k + 1)) := by simp [ctW]
theorem ctW_split (rs : List S3) (nm : List ByteArray) (f k i : Nat) (h : i < nm.length) : ctW rs nm f k i = (nm.take i).map (cW rs f (k + 1)) ++ (cW rs f k nm[i] :: (nm.drop (i + 1)).map (cW rs f k)) := by
  unfold ctW
  rw [List.drop_eq_getElem_cons h, List.map_cons]
theorem ctW_get (rs : List S3) (nm : List ByteArray) (f k i : Nat) (h : i < nm.length) : (ctW rs nm f k i)[i]'(by rw [ctW_len]; exact h) = cW rs f k nm[i] := by
  have hl : ((nm.take i).map (cW rs f (k + 1))).length = i := by simp; omega
  simp only [ctW_split rs nm f k i h]
  rw [List.getElem_append_right (by omega)]
  simp only [hl, Nat.sub_self, List.getElem_cons_zero]
theorem ctW_set (rs : List S3) (nm : List ByteArray) (f k i : Nat) (h : i < nm.length) : (ctW rs nm f k i).set i (cW rs f (k + 1) nm[i]) = ctW rs nm f k (i + 1) := by
  have hl : ((nm.take i).map (cW rs f (k + 1))).length = i := by simp; omega
  rw [ctW_split rs nm f k i h, List.set_append_right _ _ (by omega), hl, Nat.sub_self, List.set_cons_zero]
  unfold ctW
  rw [List.take_succ_eq_append_getElem h, List.map_append, List.append_assoc]
  rfl
theorem ctW_miss (rs : List S3) (nm : List ByteArray) (f k i : Nat) (h : i < nm.length) (he : cW rs f (k + 1) nm[i] = cW rs f k nm[i]) : ctW rs nm f k (i + 1) = ctW rs nm f k i := by
  rw [← ctW_set rs nm f k i h, he, ← ctW_get rs nm f k i h, List.set_getElem_self]
/-- counts as values -/
def iv (ks : List Nat) : List Value := ks.map fun (k : Nat) => .int .i64 (k : Int)
theorem iv_len (ks : List Nat) : (iv ks).length = ks.length := by simp [iv]
theorem madeI {w : World} {base g n : Nat} (h : w.ownsRow base 3 1 (.slice (some ⟨g, 0, none⟩) n n) n (madeCells #[Value.int .i64 0] n).toList) : OwnV w base 3 (.slice (some ⟨g, 0, none⟩) n n) (iv (List.replicate n 0)) := by
  unfold OwnV
  rw [iv_len, List.length_replicate]
  have e : (madeCells #[Value.int .i64 0] n).toList = iv (List.replicate n 0) := by
    apply List.ext_getElem?
    intro j
    by_cases hj : j < n
    · have hj' : j < (madeCells #[Value.int .i64 0] n).size := by rw [size_madeCells]; omega
      rw [Array.getElem?_toList, Array.getElem?_eq_getElem hj', List.getElem?_eq_getElem (by rw [iv_len, List.length_replicate]; exact hj)]
      simp [madeCells, iv, Nat.mod_one]
    · rw [List.getElem?_eq_none (by rw [Array.length_toList, size_madeCells]; omega), List.getElem?_eq_none (by rw [iv_len, List.length_replicate]; omega)]
  rw [← e]
  exact h
set_option maxRecDepth 100000 in
set_option maxHeartbeats 4000000 in
theorem lanesWindows_walk {w : World} {v : Value} {xs : List R4} {m : Nat} {q cp fr : Int} {nd : Bool} (h : Rn w v xs) : Calls Try.prog 6 #[.int .u64 (m : Int), .agg #[.int .i64 q, .int .u64 cp, .bool nd, v], .int .i64 fr] w fun e w' => e = .returned (.bool true) ∧ Below w.heap.size w w' := by
  have HR := Lib.hid h
  have HG := Lib.hid (fun W (hb : Below w.heap.size w W) => great_any (m := m) (q := q) (cp := cp) (nd := nd) (h.below hb))
  have HF := Lib.hid (fun W (hb : Below w.heap.size w W) => flatten_taken (m := m) (q := q) (cp := cp) (nd := nd) (h.below hb))
  obtain ⟨ao, cap, rfl, h1, h2, h3, h4⟩ := h
  clear h3 h4
  unfold maxLen at h2
  obtain ⟨n, hn⟩ : ∃ n, xs.length = n := ⟨_, rfl⟩
  have HN := Lib.hid hn
  rw [hn] at h1 HG HF ⊢
  have HB0 : Hid (Below w.heap.size w (w.alloc (.cells #[.int .i64 q, .int .u64 cp, .bool nd, .slice ao n cap] 31))) := (Below.refl _ _).alloc (Nat.le_refl _) _
  have HX0 : Hid ((w.alloc (.cells #[.int .i64 q, .int .u64 cp, .bool nd, .slice ao n cap] 31)).heap[w.heap.size]? = some (.cells #[.int .i64 q, .int .u64 cp, .bool nd, .slice ao n cap] 31 (0, 0))) := Array.getElem?_push_size (xs := w.heap)
  have HK := Lib.hid known_any
  clear hn
  go_enter Try.func6, Try.ntmps6
  go_wp2_with fail
  refine (HG.out _ HB0.out).mono ?_
  rintro e w1 ⟨hg, hb1⟩
  have HB1 : Hid (Below w.heap.size w w1) := HB0.out.trans (hb1.mono HB0.out.size)
  have HX1 : Hid (w1.heap[w.heap.size]? = some (.cells #[.int .i64 q, .int .u64 cp, .bool nd, .slice ao n cap] 31 (0, 0))) := (hb1.block w.heap.size (Array.getElem?_eq_some_iff.1 HX0.out).1).trans HX0.out
  clear hb1 HB0 HX0 HG
  rcases hg with rfl | rfl
  · go_wp2_with fail
    refine (HK.out _).mono ?_
    rintro e w2 ⟨rfl, hb2⟩
    have HB2 : Hid (Below w.heap.size w w2) := HB1.out.trans (hb2.mono HB1.out.size)
    clear hb2
    go_wp2_with fail
    go_ret
    exact ⟨rfl, HB2.out⟩
  · have y0 : w1.cell? ⟨w.heap.size, 0, none⟩ = some (.int .i64 q) := by rw [cell_of_row _ _ _ _ _ _ HX1.out]; rfl
    have y1 : w1.cell? ⟨w.heap.size, 1, none⟩ = some (.int .u64 cp) := by rw [cell_of_row _ _ _ _ _ _ HX1.out]; rfl
    have y2 : w1.cell? ⟨w.heap.size, 2, none⟩ = some (.bool nd) := by rw [cell_of_row _ _ _ _ _ _ HX1.out]; rfl
    have y3 : w1.cell? ⟨w.heap.size, 3, none⟩ = some (.slice ao n cap) := by rw [cell_of_row _ _ _ _ _ _ HX1.out]; rfl
    go_wp2_with fail
    refine (HF.out _ HB1.out).mono ?_
    rintro e w2 ⟨hb2, hcase⟩
    have HB2 : Hid (Below w.heap.size w w2) := HB1.out.trans (hb2.mono HB1.out.size)
    have HX2 : Hid (w2.heap[w.heap.size]? = some (.cells #[.int .i64 q, .int .u64 cp, .bool nd, .slice ao n cap] 31 (0, 0))) := (hb2.block w.heap.size (Array.getElem?_eq_some_iff.1 HX1.out).1).trans HX1.out
    have HS1 : Hid (w.heap.size + 1 ≤ w1.heap.size) := (Array.getElem?_eq_some_iff.1 HX1.out).1
    clear hb2 HB1 HX1 HF y0 y1 y2 y3
    rcases hcase with ⟨at', er, her, rfl⟩ | ⟨u, rs, rfl, ho, hgd, hend, hlen, hm0, hm⟩
    · go_wp2_with fail
      refine (HK.out _).mono ?_
      rintro e w3 ⟨rfl, hb3⟩
      have HB3 : Hid (Below w.heap.size w w3) := HB2.out.trans (hb3.mono HB2.out.size)
      clear hb3
      go_wp2_with fail
      go_ret
      exact ⟨rfl, HB3.out⟩
    · have HI : Hid (∀ x ∈ rs, I64 x) := fun x hx => by
        have h5 := gd_bounds _ _ _ hgd x hx
        rw [endE_endF, hend] at h5
        unfold I64
        omega
      have HO : Hid (OwnS w2 w1.heap.size u rs) := ho
      obtain ⟨ua, uc, rfl⟩ := ho.form
      obtain ⟨L, hL⟩ : ∃ L, rs.length = L := ⟨_, rfl⟩
      have HL := Lib.hid hL
      have HGd : Hid (Gd 0 none rs ∧ endF rs = (m : Int)) := ⟨hgd, hend⟩
      rw [hL] at HO hlen
      simp only [hL]
      have hwm : IntKind.i64.wrap (m : Int) = (m : Int) := by rw [IntKind.wrap_i64]; omega
      have hml : m * L ≤ 65536 * 4096 := Nat.mul_le_mul hm hlen
      obtain ⟨P, hP⟩ : ∃ P, m * L = P := ⟨_, rfl⟩
      rw [hP] at hml
      have hw3 : IntKind.i64.wrap ((m : Int) * (L : Int)) = (P : Int) := by
        rw [show (m : Int) * (L : Int) = ((m * L : Nat) : Int) by simp, hP, IntKind.wrap_i64]; omega
      clear ho hgd hend hL hP hml
      by_cases hP3 : 3000000 < P
      · have j3 : (3000000 : Int) < (P : Int) := by omega
        go_wp2_with fail
        refine (HK.out _).mono ?_
        rintro e w3 ⟨rfl, hb3⟩
        have HB3 : Hid (Below w.heap.size w w3) := HB2.out.trans (hb3.mono HB2.out.size)
        clear hb3
        go_wp2_with fail
        go_ret
        exact ⟨rfl, HB3.out⟩
      · have j3 : ¬ (3000000 : Int) < (P : Int) := by omega
        go_wp2_with fail
        refine (within_any fr w2).mono ?_
        rintro e w3 ⟨f, hf, rfl, hw⟩
        subst hw
        clear hw3 hP3 j3
        have HN0 : Hid (OwnV (w3.alloc (.cells #[.string ⟨#[]⟩] 9)) w3.heap.size 9 (.slice (some ⟨w3.heap.size, 0, none⟩) 1 1) ((nmW xs 0).map Value.string)) := by
          refine ⟨rfl, .inr ⟨w3.heap.size, 1, #[.string ⟨#[]⟩], rfl, Nat.le_refl _, Array.getElem?_push_size (xs := w3.heap), Nat.le_refl _, by decide, rfl, rfl⟩⟩
        have HBN0 : Hid (Below w3.heap.size w3 (w3.alloc (.cells #[.string ⟨#[]⟩] 9))) := (Below.refl _ _).alloc (Nat.le_refl _) _
        have HXl : Hid (w.heap.size < w3.heap.size) := (Array.getElem?_eq_some_iff.1 HX2.out).1
        go_wp2_with fail
        go_loopw [10, 11] (fun nv iv wr => ∃ i : Nat, i ≤ n ∧ i ≤ 20 ∧ iv = .int .i64 (i : Int) ∧ Hid (OwnV wr w3.heap.size 9 nv ((nmW xs i).map Value.string)) ∧ Hid (Below w3.heap.size w3 wr)) (fun _ iv _ => 20 - (intOf iv).toNat)
        case atStart => exact ⟨0, by omega, by omega, rfl, HN0, HBN0⟩
        case round =>
          clear HN0 HBN0
          obtain ⟨i, hi, hi2, rfl, HNm, HBn⟩ := hrel
          have HY : Hid (wr.heap[w.heap.size]? = some (.cells #[.int .i64 q, .int .u64 cp, .bool nd, .slice ao n cap] 31 (0, 0))) := (HBn.out.block w.heap.size HXl.out).trans HX2.out
          have y3 : wr.cell? ⟨w.heap.size, 3, none⟩ = some (.slice ao n cap) := by rw [cell_of_row _ _ _ _ _ _ HY.out]; rfl
          by_cases hin : i < n ∧ i < 20
          · have hix : i < xs.length := by rw [HN.out]; exact hin.1
            have ji : (i : Int) < (n : Int) := by omega
            have ji2 : (i : Int) < 20 := by omega
            have jc : (n : Int) ≤ (cap : Int) := by omega
            have hw1 : IntKind.i64.wrap ((i : Int) + 1) = ((i + 1 : Nat) : Int) := by rw [IntKind.wrap_i64]; omega
            obtain ⟨_, _, e', _, _, _, hc⟩ := HR.out.below (HB2.out.trans (HBn.out.mono HB2.out.size))
            simp only [Value.slice.injEq] at e'
            obtain ⟨rfl, _, rfl⟩ := e'
            obtain ⟨b, of, rfl, c0, c1, c2, c3⟩ := hc i hix
            have HT := Lib.hid (nmW_next xs i hix)
            have HLn : Hid (((nmW xs i).map Value.string).length ≤ 1048576) := by
              show _ ≤ _
              rw [List.length_map, nmW_len xs i (by omega)]
              omega
            clear hc
            generalize xs[i].s = sj at *
            have HOA : Hid (OwnV (wr.alloc (.cells #[.string sj] 9)) w3.heap.size 9 u10 ((nmW xs i).map Value.string)) := HNm.out.below ((Below.refl _ _).alloc (Nat.le_refl _) _)
            have HCl : Hid ((wr.alloc (.cells #[.string sj] 9)).cell? ⟨wr.heap.size, 0, none⟩ = some (.string sj)) := by
              show _ = _
              rw [cell_of_row _ _ _ _ _ _ (Array.getElem?_push_size (xs := wr.heap))]
              rfl
            have HNx : Hid (∀ u2 w2', OwnV w2' w3.heap.size 9 u2 ((nmW xs i).map Value.string ++ [.string sj]) → (wr.alloc (.cells #[.string sj] 9)).grownBy w2' u10.ownBlock → OwnV w2' w3.heap.size 9 u2 ((nmW xs (i + 1)).map Value.string) ∧ Below w3.heap.size w3 w2') := by
              intro u2 w2' h1 h2
              refine ⟨?_, (HBn.out.alloc HBn.out.size _).grown h2 (by simp; exact Nat.le_succ_of_le HBn.out.size) (fun k hk => (HNm.out.lt k hk).1)⟩
              rw [HT.out, List.map_append]
              exact h1
            have HBs : Hid (w3.heap.size ≤ wr.heap.size) := HBn.out.size
            go_wp2_with (at_builtin; refine wpList_appendT rfl (.tmp 54) (.tmp 61) rfl HOA.out rfl rfl HCl.out HLn.out (Nat.le_trans HBs.out (by simp)) ?_; intro u2 w2' HO2 HG2 HL2; obtain ⟨hn2, hb2⟩ := HNx.out _ _ HO2.out HG2.out; have HNm2 := Lib.hid hn2; have HBn2 := Lib.hid hb2; clear hn2 hb2 HO2 HG2 HL2 HNx HCl HOA)
            go_roundw
            case rel => exact ⟨i + 1, by omega, by omega, rfl, HNm2, HBn2⟩
            case measure => simp [intOf]; omega
          · have HCp : Hid (i = min n 20) := by show _ = _; omega
            have HNl : Hid ((nmW xs i).length = i + 1) := nmW_len xs i (by rw [HN.out]; exact hi)
            obtain ⟨K, hK⟩ : ∃ K, K = i + 1 := ⟨_, rfl⟩
            obtain ⟨gn, cn, hnv, hn1, hn2, hn3, hn4⟩ := HNm.out.pos (by rw [List.length_map, HNl.out]; omega)
            rw [List.length_map, HNl.out, ← hK] at hnv hn3
            subst hnv
            unfold maxLen at hn4
            have hK1 : 1 ≤ K := by omega
            have hK2 : K ≤ 21 := by omega
            have HKl : Hid ((nmW xs i).length = K) := by rw [hK]; exact HNl
            have jn : ¬ ((i : Int) < (n : Int) ∧ (i : Int) < 20) := by omega
            have HOS : Hid (OwnS wr w1.heap.size (.slice ua L uc) rs) := HO.out.below HBn.out
            clear hK HNl
            generalize nmW xs i = nm at *
            obtain ⟨ii, hii, hz0, hz1, hz2⟩ := info_parts info_int
            by_cases hin2 : i < n
            · have j1 : (i : Int) < (n : Int) := by omega
              have j2 : ¬ (i : Int) < 20 := by omega
              go_wp2_with (at_make; refine wpList_make_full _ rfl _ _ 40 rfl w3.heap.size 3 ii (.int .i64 0) 1 Try.underlying40 hii hz0 hz1 _ _ _ _ K rfl rfl (by omega) (by omega) (by rw [hz2]; omega) (by simp only [maxLen]; omega) HBn.out.size ?_)
              intro w5 hown hgrow
              have hb5 : Below wr.heap.size wr w5 := (Below.refl _ _).grown hgrow (Nat.le_refl _) (by simp)
              have HC5 : Hid (OwnV w5 w3.heap.size 3 (.slice (some ⟨wr.heap.size, 0, none⟩) K K) (iv (nm.map (cW rs f 0)))) := by
                have h5 := madeI hown
                have h6 : nm.map (cW rs f 0) = List.replicate K 0 := by
                  exact List.eq_replicate_iff.2 ⟨by rw [List.length_map, HKl.out], fun b hb => by obtain ⟨s, _, rfl⟩ := List.mem_map.1 hb; rfl⟩
                rw [h6]
                exact h5
              have HN5 := Lib.hid (HNm.out.below hb5)
              have HB5 : Hid (Below w3.heap.size w3 w5) := HBn.out.trans (hb5.mono HBn.out.size)
              have hgn : gn ≠ wr.heap.size := by omega
              obtain ⟨wA, hwA⟩ : ∃ wA, wA = wr := ⟨_, rfl⟩
              subst hwA
              have HOS3 : Hid (∀ W, Below w3.heap.size w3 W → Rs W (.slice ua L uc) rs) := fun W hW => (HO.out.below hW).rs HI.out
              clear hown hgrow hb5 hii hz0 hz1 hz2 HNm HBn HOS
              have hwf : IntKind.i64.wrap ((f : Int) + (m : Int)) = ((f + m : Nat) : Int) := by rw [IntKind.wrap_i64]; omega
              have HSc := Lib.hid (fun (o : Int) W u (h : Rs W u rs) => sched_any (o := o) h (by rw [HL.out]; omega))
              go_wp2_with fail
              go_loopw [13] (fun tv wx => ∃ k : Nat, k ≤ m ∧ tv = .int .i64 ((f + k : Nat) : Int) ∧ Hid (OwnV wx w3.heap.size 9 (.slice (some ⟨gn, 0, none⟩) K cn) (nm.map Value.string)) ∧ Hid (OwnV wx w3.heap.size 3 (.slice (some ⟨wA.heap.size, 0, none⟩) K K) (iv (nm.map (cW rs f k)))) ∧ Hid (Below w3.heap.size w3 wx)) (fun tv _ => f + m - (intOf tv).toNat)
              case atStart => exact ⟨0, by omega, rfl, HN5, HC5, HB5⟩
              case round =>
                clear HN5 HC5 HB5
                obtain ⟨k, hk, rfl, HN6, HC6, HB6⟩ := hrel
                by_cases hkm : k < m
                · have jk : ((f + k : Nat) : Int) < ((f + m : Nat) : Int) := by omega
                  have hwk : IntKind.i64.wrap (((f + k : Nat) : Int) + 1) = ((f + (k + 1) : Nat) : Int) := by rw [IntKind.wrap_i64]; omega
                  have HCall := Lib.hid (HSc.out ((f + k : Nat) : Int) wr _ (HOS3.out wr HB6.out))
                  obtain ⟨S, hS⟩ : ∃ S, (schedF ((f + k : Nat) : Int) rs).1 = S := ⟨_, rfl⟩
                  rw [hS] at HCall
                  have HS := Lib.hid hS
                  generalize (schedF ((f + k : Nat) : Int) rs).2 = mr at HCall
                  obtain ⟨T, hT⟩ : ∃ T, f + k = T := ⟨_, rfl⟩
                  rw [hT] at jk hwk HCall ⊢
                  have HT := Lib.hid hT
                  clear hS hT
                  go_wp2_with fail
                  refine HCall.out.mono ?_
                  rintro e w7 ⟨rfl, hb7⟩
                  have HN7 := Lib.hid (HN6.out.below hb7)
                  have HC7 : Hid (OwnV w7 w3.heap.size 3 (.slice (some ⟨wA.heap.size, 0, none⟩) K K) (iv (ctW rs nm f k 0))) := by
                    have h5 := HC6.out.below hb7
                    rw [ctW_zero]
                    exact h5
                  have HB7 : Hid (Below w3.heap.size w3 w7) := HB6.out.trans (hb7.mono HB6.out.size)
                  clear hb7 HN6 HC6 HB6 HCall
                  go_wp2_with fail
                  go_loopw [16] (fun iv' wx => ∃ i' : Nat, i' ≤ K ∧ iv' = .int .i64 (i' : Int) ∧ Hid (OwnV wx w3.heap.size 9 (.slice (some ⟨gn, 0, none⟩) K cn) (nm.map Value.string)) ∧ Hid (OwnV wx w3.heap.size 3 (.slice (some ⟨wA.heap.size, 0, none⟩) K K) (iv (ctW rs nm f k i'))) ∧ Hid (Below w3.heap.size w3 wx)) (fun iv' _ => K - (intOf iv').toNat)
                  case atStart => exact ⟨0, by omega, rfl, HN7, HC7, HB7⟩
                  case round =>
                    clear HN7 HC7 HB7
                    obtain ⟨j, hj, rfl, HN8, HC8, HB8⟩ := hrel
                    by_cases hjK : j < K
                    · have jj : (j : Int) < (K : Int) := by omega
                      have hwj : IntKind.i64.wrap ((j : Int) + 1) = ((j + 1 : Nat) : Int) := by rw [IntKind.wrap_i64]; omega
                      have hjn : j < nm.length := by rw [HKl.out]; exact hjK
                      have c1 : wr.cell? ⟨gn, j, none⟩ = some (.string nm[j]) := by
                        have h5 := HN8.out
                        have h6 : (nm.map Value.string).length = K := by rw [List.length_map, HKl.out]
                        rw [← h6] at h5
                        rw [h5.cell j (by rw [List.length_map]; exact hjn), List.getElem_map]
                      have hlen8 : (iv (ctW rs nm f k j)).length = K := by rw [iv_len, ctW_len, HKl.out]
                      have c2 : wr.cell? ⟨wA.heap.size, j, none⟩ = some (.int .i64 (cW rs f k nm[j] : Int)) := by
                        have h5 := HC8.out
                        rw [← hlen8] at h5
                        rw [h5.cell j (by omega)]
                        unfold iv
                        rw [List.getElem_map, ctW_get rs nm f k j hjn]
                      have cf : wr.frozen? ⟨wA.heap.size, j, none⟩ = false := by
                        have h5 := HC8.out
                        rw [← hlen8] at h5
                        exact h5.thawed j
                      have HSt : Hid (∀ x : Nat, OwnV (wr.setCell ⟨wA.heap.size, j, none⟩ (.int .i64 (x : Int))) w3.heap.size 3 (.slice (some ⟨wA.heap.size, 0, none⟩) K K) (iv ((ctW rs nm f k j).set j x)) ∧ OwnV (wr.setCell ⟨wA.heap.size, j, none⟩ (.int .i64 (x : Int))) w3.heap.size 9 (.slice (some ⟨gn, 0, none⟩) K cn) (nm.map Value.string) ∧ Below w3.heap.size w3 (wr.setCell ⟨wA.heap.size, j, none⟩ (.int .i64 (x : Int)))) := fun x => by
                        have h5 := HC8.out
                        rw [← hlen8] at h5
                        have h6 := h5.set j (.int .i64 (x : Int))
                        rw [hlen8] at h6
                        refine ⟨?_, HN8.out.keeps (Keeps.setCell wr wA.heap.size j _) (fun k hk e => hgn (by cases hk; exact e)), HB8.out.setCell (HC8.out.lt wA.heap.size rfl).1 _⟩
                        unfold iv at h6 ⊢
                        rw [List.map_set]
                        exact h6
                      have hcl : cW rs f k nm[j] ≤ k := cnt_le _ _ _
                      have HSet := Lib.hid (ctW_set rs nm f k j hjn)
                      have HMis := Lib.hid (ctW_miss rs nm f k j hjn)
                      cases hb : (nm[j].toList == S.toList) with
                      | true =>
                        have hc9 : cW rs f (k + 1) nm[j] = cW rs f k nm[j] + 1 := cW_hit (by rw [HS.out]; exact hb)
                        rw [hc9] at HSet
                        clear HMis hc9
                        generalize cW rs f k nm[j] = C at *
                        generalize nm[j] = sj at *
                        have hwC : IntKind.i64.wrap ((C : Int) + 1) = ((C + 1 : Nat) : Int) := by rw [IntKind.wrap_i64]; omega
                        obtain ⟨s1, s2, s3⟩ := HSt.out (C + 1)
                        rw [HSet.out] at s1
                        have HS1 := Lib.hid s1
                        have HS2 := Lib.hid s2
                        have HS3 := Lib.hid s3
                        clear s1 s2 s3 HSt HSet hjn
                        go_wp2_with fail
                        go_roundw
                        case rel => exact ⟨j + 1, by omega, rfl, HS2, HS1, HS3⟩
                        case measure => simp [intOf]; omega
                      | false =>
                        have hc9 : ctW rs nm f k (j + 1) = ctW rs nm f k j := HMis.out (cW_miss (by rw [HS.out]; exact hb))
                        have HC9 : Hid (OwnV wr w3.heap.size 3 (.slice (some ⟨wA.heap.size, 0, none⟩) K K) (iv (ctW rs nm f k (j + 1)))) := by rw [hc9]; exact HC8
                        clear HMis hc9 HSet HSt
                        generalize cW rs f k nm[j] = C at *
                        generalize nm[j] = sj at *
                        clear hjn
                        go_wp2_with fail
                        go_roundw
                        case rel => exact ⟨j + 1, by omega, rfl, HN8, HC9, HB8⟩
                        case measure => simp [intOf]; omega
                    · obtain rfl : j = K := by omega
                      have jj : ¬ (j : Int) < (j : Int) := by omega
                      have HC9 : Hid (OwnV wr w3.heap.size 3 (.slice (some ⟨wA.heap.size, 0, none⟩) j j) (iv (nm.map (cW rs f (k + 1))))) := by
                        have h5 := HC8.out
                        rw [show ctW rs nm f k j = nm.map (cW rs f (k + 1)) from by rw [← HKl.out]; exact ctW_end rs nm f k] at h5
                        exact h5
                      clear HC8
                      go_wp2_with fail
                      go_roundw
                      case rel => exact ⟨k + 1, by omega, rfl, HN8, HC9, HB8⟩
                      case measure => have := HT.out; simp [intOf]; omega
                · obtain rfl : k = m := by omega
                  have jk : ¬ ((f + k : Nat) : Int) < ((f + k : Nat) : Int) := by omega
                  clear HSc
                  go_wp2_with fail
                  go_loopw [17] (fun iv' wx => ∃ i' : Nat, i' ≤ K ∧ iv' = .int .i64 (i' : Int) ∧ Hid (OwnV wx w3.heap.size 9 (.slice (some ⟨gn, 0, none⟩) K cn) (nm.map Value.string)) ∧ Hid (OwnV wx w3.heap.size 3 (.slice (some ⟨wA.heap.size, 0, none⟩) K K) (iv (nm.map (cW rs f k)))) ∧ Hid (Below w3.heap.size w3 wx)) (fun iv' _ => K - (intOf iv').toNat)
                  case atStart => exact ⟨0, by omega, rfl, HN6, HC6, HB6⟩
                  case round =>
                    clear HN6 HC6 HB6
                    obtain ⟨j, hj, rfl, HN8, HC8, HB8⟩ := hrel
                    by_cases hjK : j < K
                    · have jj : (j : Int) < (K : Int) := by omega
                      have hwj : IntKind.i64.wrap ((j : Int) + 1) = ((j + 1 : Nat) : Int) := by rw [IntKind.wrap_i64]; omega
                      have hjn : j < nm.length := by rw [HKl.out]; exact hjK
                      have c1 : wr.cell? ⟨gn, j, none⟩ = some (.string nm[j]) := by
                        have h5 := HN8.out
                        have h6 : (nm.map Value.string).length = K := by rw [List.length_map, HKl.out]
                        rw [← h6] at h5
                        rw [h5.cell j (by rw [List.length_map]; exact hjn), List.getElem_map]
                      have c2 : wr.cell? ⟨wA.heap.size, j, none⟩ = some (.int .i64 (cW rs f k nm[j] : Int)) := by
                        have h5 := HC8.out
                        have h6 : (iv (nm.map (cW rs f k))).length = K := by rw [iv_len, List.length_map, HKl.out]
                        rw [← h6] at h5
                        rw [h5.cell j (by omega)]
                        unfold iv
                        rw [List.getElem_map, List.getElem_map]
                      have hcl : cW rs f k nm[j] ≤ k := cnt_le _ _ _
                      have hwin : budF nm[j] 0 rs = (cW rs f k nm[j] : Int) := window HGd.out.1 HGd.out.2 hm0 hm nm[j] f
                      have hrow : rowF 0 none rs = (k : Int) := by rw [rowF_gd _ _ _ HGd.out.1, endE_endF, HGd.out.2]
                      obtain ⟨r, hq1, hq2⟩ := quo_some (b := cW rs f k nm[j]) (m := k) (by omega) (by omega) (by omega)
                      have hLL : rs.length ≤ 4398046511000 := by rw [HL.out]; omega
                      have g1 : gn < wr.heap.size := (HN8.out.lt gn rfl).2
                      have g2 : wA.heap.size < wr.heap.size := (HC8.out.lt wA.heap.size rfl).2
                      have HBu : Hid (∀ W, Below wr.heap.size wr W → Calls Try.prog 15 #[.slice ua L uc, .string nm[j]] W fun e w' => e = .returned (.int .i64 (cW rs f k nm[j] : Int)) ∧ (w'.cell? ⟨gn, j, none⟩ = some (.string nm[j]) ∧ w'.cell? ⟨wA.heap.size, j, none⟩ = some (.int .i64 (cW rs f k nm[j] : Int))) ∧ Hid (Below wr.heap.size wr w')) := fun W hW => by
                        have h5 := budget_any (s := nm[j]) (HOS3.out W (HB8.out.trans (hW.mono HB8.out.size))) hLL
                        rw [hwin] at h5
                        refine h5.mono ?_
                        rintro e w' ⟨rfl, hb⟩
                        have hb' : Below wr.heap.size wr w' := hW.trans (hb.mono hW.size)
                        exact ⟨rfl, ⟨(hb'.cell (p := ⟨gn, j, none⟩) g1).trans c1, (hb'.cell (p := ⟨wA.heap.size, j, none⟩) g2).trans c2⟩, hb'⟩
                      have HSh : Hid (∀ W, Below wr.heap.size wr W → Calls Try.prog 16 #[.slice ua L uc, .string nm[j]] W fun e w' => e = .returned (.float .f64 r) ∧ (w'.cell? ⟨gn, j, none⟩ = some (.string nm[j]) ∧ w'.cell? ⟨wA.heap.size, j, none⟩ = some (.int .i64 (cW rs f k nm[j] : Int))) ∧ Hid (Below wr.heap.size wr w')) := fun W hW => by
                        have hrs := HOS3.out W (HB8.out.trans (hW.mono HB8.out.size))
                        have h4 := length_any hrs hLL
                        rw [hrow] at h4
                        refine (share_pos (b := (cW rs f k nm[j] : Int)) (r := r) h4 (fun W' hb' => ?_) (by omega) hq1).mono ?_
                        · have h5 := budget_any (s := nm[j]) (hrs.below hb') hLL
                          rw [hwin] at h5
                          exact h5
                        · rintro e w' ⟨rfl, hb⟩
                          have hb' : Below wr.heap.size wr w' := hW.trans (hb.mono hW.size)
                          exact ⟨rfl, ⟨(hb'.cell (p := ⟨gn, j, none⟩) g1).trans c1, (hb'.cell (p := ⟨wA.heap.size, j, none⟩) g2).trans c2⟩, hb'⟩
                      have hr : ∀ W, (binOp .quo 44 (.float .f64 (floatOfInt .f64 (cW rs f k nm[j] : Int))) (.float .f64 (floatOfInt .f64 (k : Int)))).run Try.prog W = .ok (.float .f64 r) W := fun W => run_float_arith W .quo 44 .f64 _ _ _ hq1
                      have hq3 : (FloatKind.f64.format.order r r != some Ordering.eq) = false := by
                        rw [show FloatKind.f64.format.order r r = some Ordering.eq from hq2]
                        rfl
                      clear hq1 hwin hrow hcl
                      generalize cW rs f k nm[j] = C at *
                      generalize nm[j] = sj at *
                      clear hjn hLL
                      go_wp2_with fail
                      go_region_held3 (fun w' => w'.cell? ⟨gn, j, none⟩ = some (.string sj) ∧ w'.cell? ⟨wA.heap.size, j, none⟩ = some (.int .i64 (C : Int))) (go_keep) (first | (go_at_call 15; refine (HBu.out _ (Below.refl _ _).drew).mono ?_; rintro e w9 ⟨rfl, ⟨d1, d2⟩, HB9⟩) | (go_at_call 16; refine (HSh.out _ HB9.out).mono ?_; rintro e w10 ⟨rfl, ⟨f1, f2⟩, HB10⟩))
                      all_goals
                        have HN9 := Lib.hid (HN8.out.below HB10.out)
                        have HC9 := Lib.hid (HC8.out.below HB10.out)
                        have HB11 : Hid (Below w3.heap.size w3 w10) := HB8.out.trans (HB10.out.mono HB8.out.size)
                        clear HB10 HB9 HBu HSh HN8 HC8 HB8
                        go_wp2_with fail
                        all_goals
                          first
                          | exact ⟨⟨j + 1, by omega, rfl, HN9, HC9, HB11⟩, by simp only [intOf]; omega⟩
                          | (rename_i hbad; exact absurd hbad (by rw [hq3]; decide))
                          | (go_roundw; case rel => exact ⟨j + 1, by omega, rfl, HN9, HC9, HB11⟩; case measure => simp [intOf]; omega)
                    · obtain rfl : j = K := by omega
                      have jj : ¬ (j : Int) < (j : Int) := by omega
                      have HBw : Hid (Below w.heap.size w wr) := HB2.out.trans (HB8.out.mono HB2.out.size)
                      go_wp2_with fail
                      refine (HK.out _).mono ?_
                      rintro e w9 ⟨rfl, hb9⟩
                      have HB9 : Hid (Below w.heap.size w w9) := HBw.out.trans (hb9.mono HBw.out.size)
                      clear hb9
                      go_wp2_with fail
                      go_ret
                      exact ⟨rfl, HB9.out⟩
            · have j1 : ¬ (i : Int) < (n : Int) := by omega
              go_wp2_with (at_make; refine wpList_make_full _ rfl _ _ 40 rfl w3.heap.size 3 ii (.int .i64 0) 1 Try.underlying40 hii hz0 hz1 _ _ _ _ K rfl rfl (by omega) (by omega) (by rw [hz2]; omega) (by simp only [maxLen]; omega) HBn.out.size ?_)
              intro w5 hown hgrow
              have hb5 : Below wr.heap.size wr w5 := (Below.refl _ _).grown hgrow (Nat.le_refl _) (by simp)
              have HC5 : Hid (OwnV w5 w3.heap.size 3 (.slice (some ⟨wr.heap.size, 0, none⟩) K K) (iv (nm.map (cW rs f 0)))) := by
                have h5 := madeI hown
                have h6 : nm.map (cW rs f 0) = List.replicate K 0 := by
                  exact List.eq_replicate_iff.2 ⟨by rw [List.length_map, HKl.out], fun b hb => by obtain ⟨s, _, rfl⟩ := List.mem_map.1 hb; rfl⟩
                rw [h6]
                exact h5
              have HN5 := Lib.hid (HNm.out.below hb5)
              have HB5 : Hid (Below w3.heap.size w3 w5) := HBn.out.trans (hb5.mono HBn.out.size)
              have hgn : gn ≠ wr.heap.size := by omega
              obtain ⟨wA, hwA⟩ : ∃ wA, wA = wr := ⟨_, rfl⟩
              subst hwA
              have HOS3 : Hid (∀ W, Below w3.heap.size w3 W → Rs W (.slice ua L uc) rs) := fun W hW => (HO.out.below hW).rs HI.out
              clear hown hgrow hb5 hii hz0 hz1 hz2 HNm HBn HOS
              have hwf : IntKind.i64.wrap ((f : Int) + (m : Int)) = ((f + m : Nat) : Int) := by rw [IntKind.wrap_i64]; omega
              have HSc := Lib.hid (fun (o : Int) W u (h : Rs W u rs) => sched_any (o := o) h (by rw [HL.out]; omega))
              go_wp2_with fail
              go_loopw [13] (fun tv wx => ∃ k : Nat, k ≤ m ∧ tv = .int .i64 ((f + k : Nat) : Int) ∧ Hid (OwnV wx w3.heap.size 9 (.slice (some ⟨gn, 0, none⟩) K cn) (nm.map Value.string)) ∧ Hid (OwnV wx w3.heap.size 3 (.slice (some ⟨wA.heap.size, 0, none⟩) K K) (iv (nm.map (cW rs f k)))) ∧ Hid (Below w3.heap.size w3 wx)) (fun tv _ => f + m - (intOf tv).toNat)
              case atStart => exact ⟨0, by omega, rfl, HN5, HC5, HB5⟩
              case round =>
                clear HN5 HC5 HB5
                obtain ⟨k, hk, rfl, HN6, HC6, HB6⟩ := hrel
                by_cases hkm : k < m
                · have jk : ((f + k : Nat) : Int) < ((f + m : Nat) : Int) := by omega
                  have hwk : IntKind.i64.wrap (((f + k : Nat) : Int) + 1) = ((f + (k + 1) : Nat) : Int) := by rw [IntKind.wrap_i64]; omega
                  have HCall := Lib.hid (HSc.out ((f + k : Nat) : Int) wr _ (HOS3.out wr HB6.out))
                  obtain ⟨S, hS⟩ : ∃ S, (schedF ((f + k : Nat) : Int) rs).1 = S := ⟨_, rfl⟩
                  rw [hS] at HCall
                  have HS := Lib.hid hS
                  generalize (schedF ((f + k : Nat) : Int) rs).2 = mr at HCall
                  obtain ⟨T, hT⟩ : ∃ T, f + k = T := ⟨_, rfl⟩
                  rw [hT] at jk hwk HCall ⊢
                  have HT := Lib.hid hT
                  clear hS hT
                  go_wp2_with fail
                  refine HCall.out.mono ?_
                  rintro e w7 ⟨rfl, hb7⟩
                  have HN7 := Lib.hid (HN6.out.below hb7)
                  have HC7 : Hid (OwnV w7 w3.heap.size 3 (.slice (some ⟨wA.heap.size, 0, none⟩) K K) (iv (ctW rs nm f k 0))) := by
                    have h5 := HC6.out.below hb7
                    rw [ctW_zero]
                    exact h5
                  have HB7 : Hid (Below w3.heap.size w3 w7) := HB6.out.trans (hb7.mono HB6.out.size)
                  clear hb7 HN6 HC6 HB6 HCall
                  go_wp2_with fail
                  go_loopw [16] (fun iv' wx => ∃ i' : Nat, i' ≤ K ∧ iv' = .int .i64 (i' : Int) ∧ Hid (OwnV wx w3.heap.size 9 (.slice (some ⟨gn, 0, none⟩) K cn) (nm.map Value.string)) ∧ Hid (OwnV wx w3.heap.size 3 (.slice (some ⟨wA.heap.size, 0, none⟩) K K) (iv (ctW rs nm f k i'))) ∧ Hid (Below w3.heap.size w3 wx)) (fun iv' _ => K - (intOf iv').toNat)
                  case atStart => exact ⟨0, by omega, rfl, HN7, HC7, HB7⟩
                  case round =>
                    clear HN7 HC7 HB7
                    obtain ⟨j, hj, rfl, HN8, HC8, HB8⟩ := hrel
                    by_cases hjK : j < K
                    · have jj : (j : Int) < (K : Int) := by omega
                      have hwj : IntKind.i64.wrap ((j : Int) + 1) = ((j + 1 : Nat) : Int) := by rw [IntKind.wrap_i64]; omega
                      have hjn : j < nm.length := by rw [HKl.out]; exact hjK
                      have c1 : wr.cell? ⟨gn, j, none⟩ = some (.string nm[j]) := by
                        have h5 := HN8.out
                        have h6 : (nm.map Value.string).length = K := by rw [List.length_map, HKl.out]
                        rw [← h6] at h5
                        rw [h5.cell j (by rw [List.length_map]; exact hjn), List.getElem_map]
                      have hlen8 : (iv (ctW rs nm f k j)).length = K := by rw [iv_len, ctW_len, HKl.out]
                      have c2 : wr.cell? ⟨wA.heap.size, j, none⟩ = some (.int .i64 (cW rs f k nm[j] : Int)) := by
                        have h5 := HC8.out
                        rw [← hlen8] at h5
                        rw [h5.cell j (by omega)]
                        unfold iv
                        rw [List.getElem_map, ctW_get rs nm f k j hjn]
                      have cf : wr.frozen? ⟨wA.heap.size, j, none⟩ = false := by
                        have h5 := HC8.out
                        rw [← hlen8] at h5
                        exact h5.thawed j
                      have HSt : Hid (∀ x : Nat, OwnV (wr.setCell ⟨wA.heap.size, j, none⟩ (.int .i64 (x : Int))) w3.heap.size 3 (.slice (some ⟨wA.heap.size, 0, none⟩) K K) (iv ((ctW rs nm f k j).set j x)) ∧ OwnV (wr.setCell ⟨wA.heap.size, j, none⟩ (.int .i64 (x : Int))) w3.heap.size 9 (.slice (some ⟨gn, 0, none⟩) K cn) (nm.map Value.string) ∧ Below w3.heap.size w3 (wr.setCell ⟨wA.heap.size, j, none⟩ (.int .i64 (x : Int)))) := fun x => by
                        have h5 := HC8.out
                        rw [← hlen8] at h5
                        have h6 := h5.set j (.int .i64 (x : Int))
                        rw [hlen8] at h6
                        refine ⟨?_, HN8.out.keeps (Keeps.setCell wr wA.heap.size j _) (fun k hk e => hgn (by cases hk; exact e)), HB8.out.setCell (HC8.out.lt wA.heap.size rfl).1 _⟩
                        unfold iv at h6 ⊢
                        rw [List.map_set]
                        exact h6
                      have hcl : cW rs f k nm[j] ≤ k := cnt_le _ _ _
                      have HSet := Lib.hid (ctW_set rs nm f k j hjn)
                      have HMis := Lib.hid (ctW_miss rs nm f k j hjn)
                      cases hb : (nm[j].toList == S.toList) with
                      | true =>
                        have hc9 : cW rs f (k + 1) nm[j] = cW rs f k nm[j] + 1 := cW_hit (by rw [HS.out]; exact hb)
                        rw [hc9] at HSet
                        clear HMis hc9
                        generalize cW rs f k nm[j] = C at *
                        generalize nm[j] = sj at *
                        have hwC : IntKind.i64.wrap ((C : Int) + 1) = ((C + 1 : Nat) : Int) := by rw [IntKind.wrap_i64]; omega
                        obtain ⟨s1, s2, s3⟩ := HSt.out (C + 1)
                        rw [HSet.out] at s1
                        have HS1 := Lib.hid s1
                        have HS2 := Lib.hid s2
                        have HS3 := Lib.hid s3
                        clear s1 s2 s3 HSt HSet hjn
                        go_wp2_with fail
                        go_roundw
                        case rel => exact ⟨j + 1, by omega, rfl, HS2, HS1, HS3⟩
                        case measure => simp [intOf]; omega
                      | false =>
                        have hc9 : ctW rs nm f k (j + 1) = ctW rs nm f k j := HMis.out (cW_miss (by rw [HS.out]; exact hb))
                        have HC9 : Hid (OwnV wr w3.heap.size 3 (.slice (some ⟨wA.heap.size, 0, none⟩) K K) (iv (ctW rs nm f k (j + 1)))) := by rw [hc9]; exact HC8
                        clear HMis hc9 HSet HSt
                        generalize cW rs f k nm[j] = C at *
                        generalize nm[j] = sj at *
                        clear hjn
                        go_wp2_with fail
                        go_roundw
                        case rel => exact ⟨j + 1, by omega, rfl, HN8, HC9, HB8⟩
                        case measure => simp [intOf]; omega
                    · obtain rfl : j = K := by omega
                      have jj : ¬ (j : Int) < (j : Int) := by omega
                      have HC9 : Hid (OwnV wr w3.heap.size 3 (.slice (some ⟨wA.heap.size, 0, none⟩) j j) (iv (nm.map (cW rs f (k + 1))))) := by
                        have h5 := HC8.out
                        rw [show ctW rs nm f k j = nm.map (cW rs f (k + 1)) from by rw [← HKl.out]; exact ctW_end rs nm f k] at h5
                        exact h5
                      clear HC8
                      go_wp2_with fail
                      go_roundw
                      case rel => exact ⟨k + 1, by omega, rfl, HN8, HC9, HB8⟩
                      case measure => have := HT.out; simp [intOf]; omega
                · obtain rfl : k = m := by omega
                  have jk : ¬ ((f + k : Nat) : Int) < ((f + k : Nat) : Int) := by omega
                  clear HSc
                  go_wp2_with fail
                  go_loopw [17] (fun iv' wx => ∃ i' : Nat, i' ≤ K ∧ iv' = .int .i64 (i' : Int) ∧ Hid (OwnV wx w3.heap.size 9 (.slice (some ⟨gn, 0, none⟩) K cn) (nm.map Value.string)) ∧ Hid (OwnV wx w3.heap.size 3 (.slice (some ⟨wA.heap.size, 0, none⟩) K K) (iv (nm.map (cW rs f k)))) ∧ Hid (Below w3.heap.size w3 wx)) (fun iv' _ => K - (intOf iv').toNat)
                  case atStart => exact ⟨0, by omega, rfl, HN6, HC6, HB6⟩
                  case round =>
                    clear HN6 HC6 HB6
                    obtain ⟨j, hj, rfl, HN8, HC8, HB8⟩ := hrel
                    by_cases hjK : j < K
                    · have jj : (j : Int) < (K : Int) := by omega
                      have hwj : IntKind.i64.wrap ((j : Int) + 1) = ((j + 1 : Nat) : Int) := by rw [IntKind.wrap_i64]; omega
                      have hjn : j < nm.length := by rw [HKl.out]; exact hjK
                      have c1 : wr.cell? ⟨gn, j, none⟩ = some (.string nm[j]) := by
                        have h5 := HN8.out
                        have h6 : (nm.map Value.string).length = K := by rw [List.length_map, HKl.out]
                        rw [← h6] at h5
                        rw [h5.cell j (by rw [List.length_map]; exact hjn), List.getElem_map]
                      have c2 : wr.cell? ⟨wA.heap.size, j, none⟩ = some (.int .i64 (cW rs f k nm[j] : Int)) := by
                        have h5 := HC8.out
                        have h6 : (iv (nm.map (cW rs f k))).length = K := by rw [iv_len, List.length_map, HKl.out]
                        rw [← h6] at h5
                        rw [h5.cell j (by omega)]
                        unfold iv
                        rw [List.getElem_map, List.getElem_map]
                      have hcl : cW rs f k nm[j] ≤ k := cnt_le _ _ _
                      have hwin : budF nm[j] 0 rs = (cW rs f k nm[j] : Int) := window HGd.out.1 HGd.out.2 hm0 hm nm[j] f
                      have hrow : rowF 0 none rs = (k : Int) := by rw [rowF_gd _ _ _ HGd.out.1, endE_endF, HGd.out.2]
                      obtain ⟨r, hq1, hq2⟩ := quo_some (b := cW rs f k nm[j]) (m := k) (by omega) (by omega) (by omega)
                      have hLL : rs.length ≤ 4398046511000 := by rw [HL.out]; omega
                      have g1 : gn < wr.heap.size := (HN8.out.lt gn rfl).2
                      have g2 : wA.heap.size < wr.heap.size := (HC8.out.lt wA.heap.size rfl).2
                      have HBu : Hid (∀ W, Below wr.heap.size wr W → Calls Try.prog 15 #[.slice ua L uc, .string nm[j]] W fun e w' => e = .returned (.int .i64 (cW rs f k nm[j] : Int)) ∧ (w'.cell? ⟨gn, j, none⟩ = some (.string nm[j]) ∧ w'.cell? ⟨wA.heap.size, j, none⟩ = some (.int .i64 (cW rs f k nm[j] : Int))) ∧ Hid (Below wr.heap.size wr w')) := fun W hW => by
                        have h5 := budget_any (s := nm[j]) (HOS3.out W (HB8.out.trans (hW.mono HB8.out.size))) hLL
                        rw [hwin] at h5
                        refine h5.mono ?_
                        rintro e w' ⟨rfl, hb⟩
                        have hb' : Below wr.heap.size wr w' := hW.trans (hb.mono hW.size)
                        exact ⟨rfl, ⟨(hb'.cell (p := ⟨gn, j, none⟩) g1).trans c1, (hb'.cell (p := ⟨wA.heap.size, j, none⟩) g2).trans c2⟩, hb'⟩
                      have HSh : Hid (∀ W, Below wr.heap.size wr W → Calls Try.prog 16 #[.slice ua L uc, .string nm[j]] W fun e w' => e = .returned (.float .f64 r) ∧ (w'.cell? ⟨gn, j, none⟩ = some (.string nm[j]) ∧ w'.cell? ⟨wA.heap.size, j, none⟩ = some (.int .i64 (cW rs f k nm[j] : Int))) ∧ Hid (Below wr.heap.size wr w')) := fun W hW => by
                        have hrs := HOS3.out W (HB8.out.trans (hW.mono HB8.out.size))
                        have h4 := length_any hrs hLL
                        rw [hrow] at h4
                        refine (share_pos (b := (cW rs f k nm[j] : Int)) (r := r) h4 (fun W' hb' => ?_) (by omega) hq1).mono ?_
                        · have h5 := budget_any (s := nm[j]) (hrs.below hb') hLL
                          rw [hwin] at h5
                          exact h5
                        · rintro e w' ⟨rfl, hb⟩
                          have hb' : Below wr.heap.size wr w' := hW.trans (hb.mono hW.size)
                          exact ⟨rfl, ⟨(hb'.cell (p := ⟨gn, j, none⟩) g1).trans c1, (hb'.cell (p := ⟨wA.heap.size, j, none⟩) g2).trans c2⟩, hb'⟩
                      have hr : ∀ W, (binOp .quo 44 (.float .f64 (floatOfInt .f64 (cW rs f k nm[j] : Int))) (.float .f64 (floatOfInt .f64 (k : Int)))).run Try.prog W = .ok (.float .f64 r) W := fun W => run_float_arith W .quo 44 .f64 _ _ _ hq1
                      have hq3 : (FloatKind.f64.format.order r r != some Ordering.eq) = false := by
                        rw [show FloatKind.f64.format.order r r = some Ordering.eq from hq2]
                        rfl
                      clear hq1 hwin hrow hcl
                      generalize cW rs f k nm[j] = C at *
                      generalize nm[j] = sj at *
                      clear hjn hLL
                      go_wp2_with fail
                      go_region_held3 (fun w' => w'.cell? ⟨gn, j, none⟩ = some (.string sj) ∧ w'.cell? ⟨wA.heap.size, j, none⟩ = some (.int .i64 (C : Int))) (go_keep) (first | (go_at_call 15; refine (HBu.out _ (Below.refl _ _).drew).mono ?_; rintro e w9 ⟨rfl, ⟨d1, d2⟩, HB9⟩) | (go_at_call 16; refine (HSh.out _ HB9.out).mono ?_; rintro e w10 ⟨rfl, ⟨f1, f2⟩, HB10⟩))
                      all_goals
                        have HN9 := Lib.hid (HN8.out.below HB10.out)
                        have HC9 := Lib.hid (HC8.out.below HB10.out)
                        have HB11 : Hid (Below w3.heap.size w3 w10) := HB8.out.trans (HB10.out.mono HB8.out.size)
                        clear HB10 HB9 HBu HSh HN8 HC8 HB8
                        go_wp2_with fail
                        all_goals
                          first
                          | exact ⟨⟨j + 1, by omega, rfl, HN9, HC9, HB11⟩, by simp only [intOf]; omega⟩
                          | (rename_i hbad; exact absurd hbad (by rw [hq3]; decide))
                          | (go_roundw; case rel => exact ⟨j + 1, by omega, rfl, HN9, HC9, HB11⟩; case measure => simp [intOf]; omega)
                    · obtain rfl : j = K := by omega
                      have jj : ¬ (j : Int) < (j : Int) := by omega
                      have HBw : Hid (Below w.heap.size w wr) := HB2.out.trans (HB8.out.mono HB2.out.size)
                      go_wp2_with fail
                      refine (HK.out _).mono ?_
                      rintro e w9 ⟨rfl, hb9⟩
                      have HB9 : Hid (Below w.heap.size w w9) := HBw.out.trans (hb9.mono HBw.out.size)
                      clear hb9
                      go_wp2_with fail
                      go_ret
                      exact ⟨rfl, HB9.out⟩
end Go.Proofs.Ytmgekglndjigiaa
