import Derived.Test.YtlplbbnicfeoaaaGreatPq13
import Derived.Test.YtlplbbnicfeoaaaGreatPq09
import Derived.Test.YtlplbbnicfeoaaaGreatPq06
import Derived.Test.YtlplbbnicfeoaaaGreatPq00
import Derived.Maps.OwnSet
import Derived.Maps.Views
import Derived.Deep.RegionHeld3
import Derived.Deep.MidRow
/- Pages: Build of any rows. Own work. -/
namespace Go.Proofs.YtlplbbnicfeoaaaGreat
open Go.RowKit Wk
set_option linter.unusedVariables false
theorem why_zero {xs : List L6} {base : Nat} (h : whyF xs base = 0) : refuF 0 xs = 0 ∧ countF xs = (tabsF 1 0 0 xs, 0) ∧ tabsF 1 0 0 xs ≤ 1024 ∧ base % 4096 = 0 ∧ base + tabsF 1 0 0 xs * 4096 ≤ 4294967296 := by
  unfold whyF at h
  by_cases h1 : (countF xs).2 ≠ 0
  · rw [if_pos h1] at h
    exact absurd h h1
  rw [if_neg h1] at h
  have h1' : (countF xs).2 = 0 := by omega
  by_cases h0 : refuF 0 xs ≠ 0
  · unfold countF at h1'
    rw [if_pos h0] at h1'
    exact absurd h1' h0
  have hr : refuF 0 xs = 0 := by omega
  by_cases h4 : 1024 < tabsF 1 0 0 xs
  · unfold countF at h1'
    rw [if_neg h0, if_pos h4] at h1'
    cases h1'
  have hc : countF xs = (tabsF 1 0 0 xs, 0) := by unfold countF; rw [if_neg h0, if_neg h4]
  by_cases h5 : base % 4096 ≠ 0
  · rw [if_pos h5] at h
    cases h
  rw [if_neg h5] at h
  cases h6 : winB base (countF xs).1 4294967296 with
  | false =>
    rw [if_pos h6] at h
    cases h
  | true =>
    unfold winB at h6
    have h6 := of_decide_eq_true h6
    rw [hc] at h6
    exact ⟨hr, hc, by omega, by omega, h6⟩
/-- the tables that Build makes -/
def bldM (xs : List L6) (base : Nat) : Nat → Nat := (buildU base bst0 (units xs)).M
theorem bld_nx {xs : List L6} (base : Nat) (h : refuF 0 xs = 0) : (buildU base bst0 (units xs)).nx = tabsF 1 0 0 xs := rows_count h (cl0 base) up0
theorem tabs_pos {xs : List L6} (h : refuF 0 xs = 0) : 1 ≤ tabsF 1 0 0 xs := by
  rw [← bld_nx 0 h]
  exact buildU_nx 0 (units xs) bst0
theorem pre_good {xs : List L6} (base : Nat) (h : refuF 0 xs = 0) (i : Nat) : Cl base (buildU base bst0 (units (xs.take i))) ∧ Up (endF 0 (xs.take i)) (buildU base bst0 (units (xs.take i))) ∧ refuF (endF 0 (xs.take i)) (xs.drop i) = 0 := by
  have h' : refuF 0 (xs.take i ++ xs.drop i) = 0 := by rw [List.take_append_drop]; exact h
  obtain ⟨a, b⟩ := refuF_app.1 h'
  obtain ⟨c, d⟩ := rows_good (base := base) a (cl0 base) up0
  exact ⟨c, d, b⟩
theorem pre_nx {xs : List L6} (base : Nat) (h : refuF 0 xs = 0) (i : Nat) : (buildU base bst0 (units (xs.take i))).nx ≤ tabsF 1 0 0 xs := by
  rw [← bld_nx base h]
  have e : units xs = units (xs.take i) ++ units (xs.drop i) := by rw [← units_app, List.take_append_drop]
  rw [e, buildU_app]
  exact buildU_nx base _ _
theorem pre_next {xs : List L6} (base : Nat) {i : Nat} (hi : i < xs.length) : buildU base bst0 (units (xs.take (i + 1))) = buildU base (buildU base bst0 (units (xs.take i))) (unitsL xs[i]) := by
  rw [List.take_succ_eq_append_getElem hi, units_app, units_one, buildU_app]
set_option maxRecDepth 100000 in
set_option maxHeartbeats 4000000 in
theorem build_yes {w : World} {v : Value} {xs : List L6} {base : Nat} (h : Lv w v xs) (hb : base ≤ 18446744073709551615) (hy : whyF xs base = 0) {n : Nat} (hn : tabsF 1 0 0 xs = n) : Calls Tryz.prog 5 #[v, .int .u64 (base : Int)] w fun e w' => ∃ G, e = .returned (.tuple #[.slice (some ⟨G, 0, none⟩) n n, .int .i64 0]) ∧ GAt w' G n (bldM xs base) ∧ w.heap.size ≤ G ∧ Below w.heap.size w w' := by
  obtain ⟨hr, hc, hN, ha, hl⟩ := why_zero hy
  have h1n := tabs_pos hr
  have HCt := Lib.hid (count_any h)
  rw [hc] at HCt
  rw [hn] at HCt hN hl h1n
  have HRow : Hid (∀ i (hi : i < xs.length) (W : World) (B G : Nat), B ≠ G → Bw W B G n base (buildU base bst0 (units (xs.take i))) → Calls Tryz.prog 15 #[.pointer (some ⟨B, 0, none⟩), V6 xs[i]] W fun e w' => e = .returned (.tuple #[]) ∧ Bw w' B G n base (buildU base bst0 (units (xs.take (i + 1)))) ∧ Keeps (fun k => k = B ∨ k = G) W w') := fun i hi W B G hne hW => by
    obtain ⟨c, u, r⟩ := pre_good base hr i
    rw [List.drop_eq_getElem_cons hi] at r
    obtain ⟨r1, r2, r3⟩ := refuF_zero r
    have hx := pre_nx base hr (i + 1)
    rw [pre_next base hi] at hx ⊢
    rw [hn] at hx
    exact row_any r1 r2 hW c u hx hN ha hl hne
  have HW : Hid (∀ W, Calls Tryz.prog 13 #[.int .u64 (base : Int), .int .i64 (n : Int), .int .u64 4294967296] W fun e w' => e = .returned (.bool true) ∧ w' = W) := fun W => by
    have h5 := pwithin_any (a := base) (p := n) (bound := 4294967296) (by omega) (by omega) (by omega) W
    rw [show winB base n 4294967296 = true from decide_eq_true hl] at h5
    exact h5
  obtain ⟨m, rfl⟩ : ∃ m, n = m + 1 := ⟨n - 1, by omega⟩
  have HBg : Hid (∀ W G, Calls Tryz.prog 14 #[.slice (some ⟨G, 0, none⟩) (m + 1) (m + 1), .int .u64 (base : Int)] W fun e w' => e = .returned (.pointer (some ⟨W.heap.size, 0, none⟩)) ∧ (∃ r, Bb w' W.heap.size (win G 0) (.slice none 0 0) (.slice none 0 0) r (base + 4096) ∧ (m ≠ 0 → r = .slice (some ⟨G, 512, none⟩) m m)) ∧ Below W.heap.size W w') := fun W G => begun_any (m := m) (a := base) (by omega) (by omega)
  obtain ⟨ii, hii, hz0, hz1, hz2⟩ := info_parts info_tab
  have jm : ((base : Int).tmod 4096) = 0 := by
    have e : (base : Int).tmod 4096 = ((base % 4096 : Nat) : Int) := rfl
    rw [e, ha]
    rfl
  have HR := Lib.hid h
  obtain ⟨ao, cap, rfl, q1, q2, q3, q9⟩ := h
  clear q9
  unfold maxLen at q2
  obtain ⟨L, hL⟩ : ∃ L, xs.length = L := ⟨_, rfl⟩
  have HN := Lib.hid hL
  rw [hL] at q1 HCt ⊢
  have HE : Hid (bldM xs base = (buildU base bst0 (units (xs.take L))).M) := by
    have e : xs.take L = xs := by rw [← hL]; exact List.take_length
    show bldM xs base = _
    rw [e]
    rfl
  have HQ0 : Hid (buildU base bst0 (units (xs.take 0)) = bst0) := rfl
  clear hL q3 hy hn hr hc h1n ha hl
  have hN := Lib.hid hN
  go_enter Tryz.func5, Tryz.ntmps5
  go_wp2_with fail
  refine HCt.out.mono ?_
  rintro e w1 ⟨rfl, hb1⟩
  have HB1 := Lib.hid hb1
  clear hb1 HCt
  go_wp2_with fail
  refine (HW.out _).mono ?_
  rintro e w2 ⟨rfl, hw⟩
  have hw := hw.symm
  subst hw
  go_wp2_with (at_make; refine wpList_make_full _ rfl _ _ 27 rfl w1.heap.size 55 ii (.agg (tabV fun _ => 0)) 512 Tryz.underlying27 hii hz0 hz1 _ _ _ _ (m + 1) rfl rfl (by omega) (by have := hN.out; omega) (by rw [hz2]; have := hN.out; omega) (by have := hN.out; simp only [maxLen]; omega) (Nat.le_refl _) ?_)
  intro w3 hown hgrow
  have HG3 := Lib.hid (GAt.of_made (n := m + 1) hown)
  have hb3 : Below w1.heap.size w1 w3 := (Below.refl _ _).grown hgrow (Nat.le_refl _) (by simp)
  have HB3 := Lib.hid (HB1.out.trans (hb3.mono HB1.out.size))
  have HGw : Hid (w.heap.size ≤ w1.heap.size) := HB1.out.size
  clear hown hgrow hb3 hii hz0 hz1 hz2 HB1
  generalize w1.heap.size = G at *
  go_wp2_with fail
  refine (HBg.out _ _).mono ?_
  rintro e w4 ⟨rfl, ⟨r, hbb, hr⟩, hb4⟩
  have HG4 := Lib.hid (HG3.out.below hb4)
  have HB4 := Lib.hid (HB3.out.trans (hb4.mono HB3.out.size))
  have hne : w3.heap.size ≠ G := Nat.ne_of_gt HG3.out.lt
  have HS3 : Hid (w.heap.size ≤ w3.heap.size) := HB3.out.size
  have HBw : Hid (Bw w4 w3.heap.size G (m + 1) base (buildU base bst0 (units (xs.take 0)))) := by
    rw [HQ0.out]
    refine ⟨HG4.out, r, ?_, ?_⟩
    · show Bb w4 w3.heap.size (win G 0) (.slice none 0 0) (.slice none 0 0) r (base + 1 * 4096)
      rw [Nat.one_mul]
      exact hbb
    · intro hlt
      have hlt : 1 < m + 1 := hlt
      rw [hr (by omega)]
      rfl
  clear hbb hr hb4 HG3 HB3 HG4 HQ0
  generalize w3.heap.size = B at *
  go_wp2_with fail
  obtain ⟨Q, hQ⟩ : ∃ Q : Nat → Bst, ∀ i : Nat, buildU base bst0 (units (xs.take i)) = Q i := ⟨fun i => buildU base bst0 (units (xs.take i)), fun _ => rfl⟩
  have HRow : Hid (∀ i (hi : i < xs.length) (W : World), Bw W B G (m + 1) base (Q i) → Calls Tryz.prog 15 #[.pointer (some ⟨B, 0, none⟩), V6 xs[i]] W fun e w' => e = .returned (.tuple #[]) ∧ Bw w' B G (m + 1) base (Q (i + 1)) ∧ Keeps (fun k => k = B ∨ k = G) W w') := fun i hi W hW => by
    have h5 := HRow.out i hi W B G hne (by rw [hQ]; exact hW)
    rw [hQ] at h5
    exact h5
  rw [hQ] at HBw HE
  clear hQ
  go_loopw [37] (fun iv wr => ∃ i : Nat, i ≤ L ∧ iv = .int .i64 (i : Int) ∧ Hid (Bw wr B G (m + 1) base (Q i)) ∧ Hid (Below w.heap.size w wr)) (fun iv _ => L - (intOf iv).toNat)
  case atStart => exact ⟨0, by omega, rfl, HBw, HB4⟩
  case round =>
    clear HBw HB4
    obtain ⟨i, hi, rfl, HBw, HB⟩ := hrel
    by_cases hin : i < L
    · have hix : i < xs.length := by rw [HN.out]; exact hin
      have ji : (i : Int) < (L : Int) := by omega
      have hw1 : IntKind.i64.wrap ((i : Int) + 1) = ((i + 1 : Nat) : Int) := by rw [IntKind.wrap_i64]; omega
      obtain ⟨_, _, e', _, _, _, hcl⟩ := HR.out.below HB.out
      simp only [Value.slice.injEq] at e'
      obtain ⟨rfl, e9, rfl⟩ := e'
      clear e9
      obtain ⟨b, of, rfl, c0, c1, c2, c3, c4, c5⟩ := hcl i hix
      have HRi := Lib.hid (HRow.out i hix)
      clear hcl HRow
      generalize xs[i] = x at *
      unfold V6 at HRi
      have HB5 := Lib.hid (HBw.out.below (lf_below' wr x))
      have HB6 := Lib.hid (HB.out.trans ((lf_below' wr x).mono HB.out.size))
      go_wp2_with fail
      generalize (wr.alloc (.cells #[.int .u64 (x.v : Int), .int .u64 (x.p : Int), .int .i64 x.n, .bool x.big, .bool x.wr, .bool x.ex] 26)) = w5 at *
      clear c0 c1 c2 c3 c4 c5 HBw HB
      refine (HRi.out _ HB5.out).mono ?_
      rintro e w6 ⟨rfl, hb6, hk6⟩
      have HB7 := Lib.hid hb6
      have HB8 : Hid (Below w.heap.size w w6) := HB6.out.trans (hk6.below HB6.out.size (fun i _ e => e.elim (fun e => by rw [e]; exact HS3.out) (fun e => by rw [e]; exact HGw.out)))
      clear hb6 hk6 HB5 HB6
      go_wp2_with fail
      go_roundw
      case rel => exact ⟨i + 1, by omega, rfl, HB7, HB8⟩
      case measure => simp [intOf]; omega
    · have hiL : i = L := by omega
      have ji : ¬ (i : Int) < (L : Int) := by omega
      have HGf : Hid (GAt wr G (m + 1) (Q L).M) := by rw [← hiL]; exact HBw.out.1
      clear HBw hiL
      go_wp2_with fail
      go_ret2
      exact ⟨G, rfl, by rw [HE.out]; exact HGf.out, HGw.out, HB.out⟩
end Go.Proofs.YtlplbbnicfeoaaaGreat
/- The bytes of a machine as a function of the address; pages; the map of pages in memory. Own work. -/
namespace Go.Proofs.YtlplbbnicfeoaaaGreat
open Go.RowKit Go.Maps
/-! ### plain -/
def pageOf (M : Nat → Nat) (k : Nat) : List Nat := (List.range 4096).map fun i => M (k * 4096 + i)
def isZ (M : Nat → Nat) (k : Nat) : Prop := ∀ i, i < 4096 → M (k * 4096 + i) = 0
def putAt (M : Nat → Nat) (a : Nat) (zs : List Nat) : Nat → Nat := fun p => if a ≤ p ∧ p < a + zs.length then zs.getD (p - a) 0 else M p
def bytesAt (M : Nat → Nat) (a n : Nat) : List Nat := (List.range n).map fun i => M (a + i)
theorem pageOf_length (M : Nat → Nat) (k : Nat) : (pageOf M k).length = 4096 := by simp [pageOf]
theorem bytesAt_length (M : Nat → Nat) (a n : Nat) : (bytesAt M a n).length = n := by simp [bytesAt]
theorem pageOf_get (M : Nat → Nat) (k i : Nat) (h : i < 4096) : (pageOf M k)[i]? = some (M (k * 4096 + i)) := by
  rw [pageOf, List.getElem?_map, List.getElem?_range h]; rfl
theorem bytesAt_get (M : Nat → Nat) (a n i : Nat) (h : i < n) : (bytesAt M a n)[i]? = some (M (a + i)) := by
  rw [bytesAt, List.getElem?_map, List.getElem?_range h]; rfl
theorem page_ext {L : List Nat} {M : Nat → Nat} {k : Nat} (hl : L.length = 4096) (h : ∀ i, i < 4096 → L[i]? = some (M (k * 4096 + i))) : L = pageOf M k := by
  refine List.ext_getElem? fun i => ?_
  by_cases hi : i < 4096
  · rw [h i hi, pageOf_get M k i hi]
  · rw [List.getElem?_eq_none (by omega), List.getElem?_eq_none (by rw [pageOf_length]; omega)]
theorem bytesAt_ext {L : List Nat} {M : Nat → Nat} {a n : Nat} (hl : L.length = n) (h : ∀ i, i < n → L[i]? = some (M (a + i))) : L = bytesAt M a n := by
  refine List.ext_getElem? fun i => ?_
  by_cases hi : i < n
  · rw [h i hi, bytesAt_get M a n i hi]
  · rw [List.getElem?_eq_none (by omega), List.getElem?_eq_none (by rw [bytesAt_length]; omega)]
theorem putAt_in (M : Nat → Nat) (a : Nat) (zs : List Nat) (i : Nat) (h : i < zs.length) : putAt M a zs (a + i) = zs.getD i 0 := by
  unfold putAt; rw [if_pos (by omega), Nat.add_sub_cancel_left]
theorem putAt_out (M : Nat → Nat) (a : Nat) (zs : List Nat) (p : Nat) (h : p < a ∨ a + zs.length ≤ p) : putAt M a zs p = M p := by
  unfold putAt; rw [if_neg (by omega)]
theorem putAt_nil (M : Nat → Nat) (a : Nat) : putAt M a [] = M := by
  funext p; exact putAt_out M a [] p (by simp; omega)
theorem putAt_append (M : Nat → Nat) (a : Nat) (xs ys : List Nat) : putAt (putAt M a xs) (a + xs.length) ys = putAt M a (xs ++ ys) := by
  funext p
  by_cases h1 : a + xs.length ≤ p ∧ p < a + xs.length + ys.length
  · rw [show putAt (putAt M a xs) (a + xs.length) ys p = ys.getD (p - (a + xs.length)) 0 from if_pos h1]
    rw [show putAt M a (xs ++ ys) p = (xs ++ ys).getD (p - a) 0 from if_pos (by simp; omega)]
    simp only [List.getD_eq_getElem?_getD]
    rw [List.getElem?_append_right (by omega)]
    congr 2
    omega
  · rw [show putAt (putAt M a xs) (a + xs.length) ys p = putAt M a xs p from if_neg h1]
    by_cases h2 : a ≤ p ∧ p < a + xs.length
    · rw [show putAt M a xs p = xs.getD (p - a) 0 from if_pos h2, show putAt M a (xs ++ ys) p = (xs ++ ys).getD (p - a) 0 from if_pos (by simp; omega)]
      simp only [List.getD_eq_getElem?_getD]
      rw [List.getElem?_append_left (by omega)]
    · rw [show putAt M a xs p = M p from if_neg h2, show putAt M a (xs ++ ys) p = M p from if_neg (by simp; omega)]
theorem putAt_small {M : Nat → Nat} {a : Nat} {zs : List Nat} (hM : ∀ p, M p < 256) (hz : ∀ z ∈ zs, z < 256) (p : Nat) : putAt M a zs p < 256 := by
  unfold putAt
  split
  · exact Pl.mem_getD hz
  · exact hM p
theorem page_put_same (M : Nat → Nat) (k o : Nat) (zs : List Nat) (h : o + zs.length ≤ 4096) : (pageOf M k).take o ++ zs ++ (pageOf M k).drop (o + zs.length) = pageOf (putAt M (k * 4096 + o) zs) k := by
  have hl := pageOf_length M k
  refine page_ext (by simp [hl]; omega) fun i hi => ?_
  by_cases h1 : i < o
  · rw [List.append_assoc, List.getElem?_append_left (by simp [hl]; omega), List.getElem?_take_of_lt h1, pageOf_get M k i hi, putAt_out _ _ _ _ (by omega)]
  · by_cases h2 : i < o + zs.length
    · rw [List.getElem?_append_left (by simp [hl]; omega), List.getElem?_append_right (by simp [hl]; omega)]
      rw [show i - ((pageOf M k).take o).length = i - o by simp [hl]; omega]
      rw [show k * 4096 + i = k * 4096 + o + (i - o) by omega, putAt_in _ _ _ _ (by omega), List.getD_eq_getElem?_getD, List.getElem?_eq_getElem (by omega)]
      rfl
    · rw [List.getElem?_append_right (by simp [hl]; omega), List.getElem?_drop]
      rw [show o + zs.length + (i - ((pageOf M k).take o ++ zs).length) = i by simp [hl]; omega]
      rw [pageOf_get M k i hi, putAt_out _ _ _ _ (by omega)]
theorem put_other (M : Nat → Nat) {k k' o : Nat} {zs : List Nat} (h : o + zs.length ≤ 4096) (hk : k' ≠ k) (i : Nat) (hi : i < 4096) : putAt M (k * 4096 + o) zs (k' * 4096 + i) = M (k' * 4096 + i) := by
  refine putAt_out _ _ _ _ ?_
  rcases Nat.lt_or_gt_of_ne hk with h1 | h1 <;> omega
theorem page_congr {M M' : Nat → Nat} {k : Nat} (h : ∀ i, i < 4096 → M' (k * 4096 + i) = M (k * 4096 + i)) : pageOf M' k = pageOf M k :=
  page_ext (pageOf_length _ _) fun i hi => by rw [pageOf_get _ _ _ hi, h i hi]
theorem page_put_other (M : Nat → Nat) {k k' o : Nat} {zs : List Nat} (h : o + zs.length ≤ 4096) (hk : k' ≠ k) : pageOf (putAt M (k * 4096 + o) zs) k' = pageOf M k' := page_congr (put_other M h hk)
theorem isZ_congr {M M' : Nat → Nat} {k : Nat} (h : ∀ i, i < 4096 → M' (k * 4096 + i) = M (k * 4096 + i)) (hz : isZ M k) : isZ M' k := fun i hi => (h i hi).trans (hz i hi)
/-- how many pages hold a byte that is not 0 -/
def nz (M : Nat → Nat) (k : Nat) : Bool := (pageOf M k).any fun z => z != 0
theorem nz_false {M : Nat → Nat} {k : Nat} : nz M k = false ↔ isZ M k := by
  unfold nz
  rw [List.any_eq_false]
  constructor
  · intro h i hi
    have := h _ (List.mem_of_getElem? (pageOf_get M k i hi))
    simpa using this
  · intro h z hz
    obtain ⟨i, hi, e⟩ := List.getElem_of_mem hz
    rw [pageOf_length] at hi
    have := pageOf_get M k i hi
    rw [List.getElem?_eq_getElem (by rw [pageOf_length]; exact hi), e, h i hi] at this
    cases this
    decide
theorem nz_true {M : Nat → Nat} {k : Nat} (h : ¬ isZ M k) : nz M k = true := by
  cases e : nz M k with
  | true => rfl
  | false => exact absurd (nz_false.1 e) h
def cntN (M : Nat → Nat) : Nat → Nat
  | 0 => 0
  | n + 1 => cntN M n + if nz M n then 1 else 0
theorem cntN_congr {M M' : Nat → Nat} (n : Nat) (h : ∀ k, k < n → nz M' k = nz M k) : cntN M' n = cntN M n := by
  induction n with
  | zero => rfl
  | succ n ih => unfold cntN; rw [ih (fun k hk => h k (by omega)), h n (by omega)]
theorem cntN_one {M M' : Nat → Nat} {k : Nat} (n : Nat) (hk : k < n) (h : ∀ j, j ≠ k → nz M' j = nz M j) : cntN M' n + (if nz M k then 1 else 0) = cntN M n + (if nz M' k then 1 else 0) := by
  induction n with
  | zero => omega
  | succ n ih =>
    unfold cntN
    by_cases e : n = k
    · subst e
      rw [cntN_congr n (fun j hj => h j (by omega))]
      omega
    · have := ih (by omega)
      rw [h n e]
      omega
theorem cntN_le (M : Nat → Nat) (n : Nat) : cntN M n ≤ n := by
  induction n with
  | zero => exact Nat.le_refl _
  | succ n ih => unfold cntN; split <;> omega
def pagesN : Nat := 1048576
def cnt (M : Nat → Nat) : Nat := cntN M pagesN
theorem cnt_one {M M' : Nat → Nat} {k : Nat} (hk : k < pagesN) (h : ∀ j, j ≠ k → nz M' j = nz M j) : cnt M' + (if nz M k then 1 else 0) = cnt M + (if nz M' k then 1 else 0) := cntN_one pagesN hk h
theorem cnt_le (M : Nat → Nat) : cnt M ≤ pagesN := cntN_le M pagesN
theorem cntN_zero (n : Nat) : cntN (fun _ => 0) n = 0 := by
  induction n with
  | zero => rfl
  | succ n ih => unfold cntN; rw [ih, nz_false.2 (fun _ _ => rfl)]; rfl
theorem cnt_zero : cnt (fun _ => 0) = 0 := cntN_zero pagesN

/-! ### the map of pages -/
def upd (T : Nat → Option Nat) (k : Nat) (x : Option Nat) : Nat → Option Nat := fun j => if j = k then x else T j
theorem upd_same (T : Nat → Option Nat) (k : Nat) (x : Option Nat) : upd T k x k = x := if_pos rfl
theorem upd_other (T : Nat → Option Nat) {k j : Nat} (x : Option Nat) (h : j ≠ k) : upd T k x j = T j := if_neg h
/-- a pointer to a page's block, read as the block's number -/
def ptrE : Value → Option (DataW Unit × List MemPlace)
  | .pointer none => some (.nil, [])
  | .pointer (some ⟨g, 0, none⟩) => some (.lit (.int .u64 (g : Int)), [])
  | _ => none
theorem ptrE_mk (g : Nat) : ptrE (.pointer (some ⟨g, 0, none⟩)) = some (.lit (.int .u64 (g : Int)), []) := rfl
theorem ptrE_inv {v : Value} {g : Nat} {ps : List MemPlace} (h : ptrE v = some (.lit (.int .u64 (g : Int)), ps)) : v = .pointer (some ⟨g, 0, none⟩) := by
  unfold ptrE at h
  split at h
  · cases h
  · simp only [Option.some.injEq, Prod.mk.injEq, DataW.lit.injEq, Lit.int.injEq, true_and] at h
    have := h.1
    congr 3
    omega
  · cases h
theorem ptrE_none {v : Value} {ps : List MemPlace} (h : ptrE v = some (.nil, ps)) : v = .pointer none := by
  unfold ptrE at h
  split at h
  · rfl
  · cases h
  · cases h
theorem key_page : Keyed Tryz.prog 23 := int_keyed (q := .u64) Tryz.underlying23
theorem key_of {k : Nat} (h : k < 4503599627370496) : keyOf Tryz.prog 23 (.int .u64 (k : Int)) = some (.int .u64 (k : Int)) := keyOf_int_mk Tryz.underlying23 (WalkArith.wf_u64 ⟨by omega, by omega⟩)
theorem zero_page (w : World) : (zeroValue 156).run Tryz.prog w = .ok (.pointer none) w := by kernel_rfl
def MapT (w : World) (B : Nat) (T : Nat → Option Nat) (c : Nat) : Prop :=
  ∃ D : DataW Unit, w.ownsMap Tryz.prog 23 ptrE B c D ∧ Maps.size D = c ∧ (∀ k, k < 4503599627370496 → (T k = none → Maps.has D (.int .u64 (k : Int)) = false) ∧ ∀ g, T k = some g → Maps.has D (.int .u64 (k : Int)) = true ∧ ∀ z, D.atKey (.int .u64 (k : Int)) z = .lit (.int .u64 (g : Int))) ∧ ∀ kl, Maps.has D kl = true → ∃ k : Nat, k < 4503599627370496 ∧ kl = .int .u64 (k : Int)
theorem isKey (k : Nat) : WideAt.IsKeyLit (.int .u64 (k : Int)) := by trivial
theorem lit_ne {k j : Nat} (h : j ≠ k) : (Lit.int .u64 (j : Int)) ≠ .int .u64 (k : Int) := fun e => by
  have := (Lit.int.inj e).2
  omega
theorem World.ownsMap.tight {w : World} {B n : Nat} {D : DataW Unit} (h : w.ownsMap Tryz.prog 23 ptrE B n D) : w.ownsMap Tryz.prog 23 ptrE B (Maps.size D) D := by
  obtain ⟨es, clock, hb, F, _, rfl⟩ := h
  refine ⟨es, clock, hb, F, ?_, rfl⟩
  simp [Maps.size, length_sorted]
theorem MapT.keeps {S : Nat → Prop} {w w' : World} {B : Nat} {T : Nat → Option Nat} {c : Nat} (h : MapT w B T c) (hk : Keeps S w w') (hn : ¬ S B) : MapT w' B T c := by
  obtain ⟨D, ⟨es, clock, hb, F, hs, e⟩, h2, h3⟩ := h
  exact ⟨D, ⟨es, clock, (hk.block B (Array.getElem?_eq_some_iff.1 hb).1 hn).trans hb, F, hs, e⟩, h2, h3⟩
theorem MapT.lt {w : World} {B : Nat} {T : Nat → Option Nat} {c : Nat} (h : MapT w B T c) : B < w.heap.size := by
  obtain ⟨D, ho, _⟩ := h
  exact ho.lt
/-- block B is no row -/
theorem MapT.no_row {w : World} {B : Nat} {T : Nat → Option Nat} {c : Nat} (h : MapT w B T c) {cs : Array Value} {t : TypeId} {f : Nat × Nat} : w.heap[B]? ≠ some (.cells cs t f) := by
  obtain ⟨D, ⟨es, clock, hb, _⟩, _⟩ := h
  rw [hb]
  exact fun e => by cases e
theorem MapT.made (w : World) : MapT (w.alloc (.map #[] 0)) w.heap.size (fun _ => none) 0 :=
  ⟨.map [], World.ownsMap_made w _ _ _, rfl, fun k _ => ⟨fun _ => rfl, fun g e => by cases e⟩, fun kl e => by cases (show false = true from e)⟩
theorem MapT.look_some {w : World} {B : Nat} {T : Nat → Option Nat} {c k g : Nat} (h : MapT w B T c) (hk : T k = some g) (hb : k < 4503599627370496) :
    (Instr.lookup 97 (.map (some B)) (.int .u64 (k : Int)) true).run Tryz.prog w = .ok (.tuple #[.pointer (some ⟨g, 0, none⟩), .bool true]) w := by
  obtain ⟨D, ho, _, h3, _⟩ := h
  obtain ⟨h4, h5⟩ := (h3 k hb).2 g hk
  obtain ⟨v, ps, hr, hv⟩ := ho.look_ok key_page Tryz.underlying97 (zero_page w) (zd := .nil) (zp := []) rfl (key_of hb)
  rw [h5] at hv
  rw [ptrE_inv hv, h4] at hr
  exact hr
theorem MapT.look_none {w : World} {B : Nat} {T : Nat → Option Nat} {c k : Nat} (h : MapT w B T c) (hk : T k = none) (hb : k < 4503599627370496) :
    (Instr.lookup 97 (.map (some B)) (.int .u64 (k : Int)) true).run Tryz.prog w = .ok (.tuple #[.pointer none, .bool false]) w := by
  obtain ⟨D, ho, _, h3, _⟩ := h
  have h4 := (h3 k hb).1 hk
  obtain ⟨v, ps, hr, hv⟩ := ho.look_ok key_page Tryz.underlying97 (zero_page w) (zd := .nil) (zp := []) rfl (key_of hb)
  rw [atKey_of_not_has h4] at hv
  rw [ptrE_none hv, h4] at hr
  exact hr
theorem MapT.len {w : World} {B : Nat} {T : Nat → Option Nat} {c : Nat} (h : MapT w B T c) (ty : TypeId) : (Builtin.len_ #[97] ty #[.map (some B)]).run Tryz.prog w = .ok (.int .i64 (c : Int)) w := by
  obtain ⟨D, ho, h2, _⟩ := h
  rw [← h2]
  exact ho.len Tryz.underlying97 ty
theorem MapT.put {w : World} {B : Nat} {T : Nat → Option Nat} {c k : Nat} (h : MapT w B T c) (hk : T k = none) (hb : k < 4503599627370496) (hc : c < maxLen) (g : Nat) :
    ∃ w', (Instr.mapUpdate 97 (.map (some B)) (.int .u64 (k : Int)) (.pointer (some ⟨g, 0, none⟩))).run Tryz.prog w = .ok () w' ∧ MapT w' B (upd T k (some g)) (c + 1) ∧ w.mapTurned w' B := by
  obtain ⟨D, ho, h2, h3, h6⟩ := h
  have h4 := (h3 k hb).1 hk
  have hi := ho.isMap
  have ht := ho.tidy key_page
  obtain ⟨w', hr, ho', hm⟩ := ho.store key_page Tryz.underlying97 hc (key_of hb) (ptrE_mk g)
  refine ⟨w', hr, ⟨_, ho', ?_, fun j hj => ?_, fun kl e => ?_⟩, hm⟩
  · rw [size_put ht, h4, h2]; rfl
  · by_cases e : j = k
    · subst e
      rw [upd_same]
      exact ⟨(fun e => by cases e), (fun g' e => by cases e; exact ⟨has_put_same hi (isKey _) _, fun z => atKey_put_same hi (isKey _) _ z⟩)⟩
    · rw [upd_other _ _ e, has_put_other (lit_ne e)]
      exact ⟨(h3 j hj).1, fun g' e' => ⟨((h3 j hj).2 g' e').1, fun z => by rw [atKey_put_other (lit_ne e)]; exact ((h3 j hj).2 g' e').2 z⟩⟩
  · by_cases e' : kl = .int .u64 (k : Int)
    · exact ⟨k, hb, e'⟩
    · rw [has_put_other e'] at e
      exact h6 kl e
theorem MapT.del {w : World} {B : Nat} {T : Nat → Option Nat} {c k g : Nat} (h : MapT w B T (c + 1)) (hk : T k = some g) (hb : k < 4503599627370496) (ty : TypeId) :
    ∃ w', (Builtin.delete_ #[97, 23] ty #[.map (some B), .int .u64 (k : Int)]).run Tryz.prog w = .ok (.tuple #[]) w' ∧ MapT w' B (upd T k none) c ∧ w.mapTurned w' B := by
  obtain ⟨D, ho, h2, h3, h6⟩ := h
  obtain ⟨h4, h5⟩ := (h3 k hb).2 g hk
  have ht := ho.tidy key_page
  obtain ⟨w', hr, ho', hm⟩ := ho.drop key_page Tryz.underlying97 (key_of hb) ty
  have hz := size_del (k := .int .u64 (k : Int)) ht
  rw [h4, h2] at hz
  have hz' : Maps.size (D.del (.int .u64 (k : Int))) = c := by simpa using hz
  refine ⟨w', hr, ⟨_, by have := World.ownsMap.tight ho'; rwa [hz'] at this, hz', fun j hj => ?_, fun kl e => ?_⟩, hm⟩
  · by_cases e : j = k
    · subst e
      rw [upd_same]
      exact ⟨fun _ => has_del_same, (fun g' e => by cases e)⟩
    · rw [upd_other _ _ e, has_del_other (lit_ne e)]
      exact ⟨(h3 j hj).1, fun g' e' => ⟨((h3 j hj).2 g' e').1, fun z => by rw [atKey_del_other (lit_ne e)]; exact ((h3 j hj).2 g' e').2 z⟩⟩
  · by_cases e' : kl = .int .u64 (k : Int)
    · subst e'
      rw [has_del_same] at e
      cases e
    · rw [has_del_other e'] at e
      exact h6 kl e
theorem Keeps.turned {w w' : World} {B : Nat} (h : w.mapTurned w' B) : Keeps (fun j => j = B) w w' := by
  have := Keeps.of_grown h.grown
  exact this.mono fun i _ e => (Option.some.inj e).symm

/-! ### pages in memory -/
def Pg (w : World) (g : Nat) (L : List Nat) : Prop := w.heap[g]? = some (.cells (bvs L).toArray 159 (0, 0))
theorem Pg.lt {w : World} {g : Nat} {L : List Nat} (h : Pg w g L) : g < w.heap.size := (Array.getElem?_eq_some_iff.1 h).1
theorem Pg.keeps {S : Nat → Prop} {w w' : World} {g : Nat} {L : List Nat} (h : Pg w g L) (hk : Keeps S w w') (hn : ¬ S g) : Pg w' g L := (hk.block g h.lt hn).trans h
def PagesAt (w : World) (T : Nat → Option Nat) (M : Nat → Nat) : Prop :=
  (∀ k g, T k = some g → Pg w g (pageOf M k) ∧ ¬ isZ M k) ∧ (∀ k, T k = none → isZ M k) ∧ (∀ k k' g, T k = some g → T k' = some g → k = k') ∧ (∀ p, M p < 256) ∧ ∀ k, pagesN ≤ k → T k = none
def Foot (B : Nat) (T : Nat → Option Nat) (j : Nat) : Prop := j = B ∨ ∃ k, T k = some j
/-- block B is the map, T says where its pages lie, M what they hold -/
def Held (w : World) (B : Nat) (T : Nat → Option Nat) (M : Nat → Nat) : Prop := MapT w B T (cnt M) ∧ PagesAt w T M
/-- each page lies where it lay, or in a block from n on -/
def Grows (n : Nat) (T T' : Nat → Option Nat) : Prop := ∀ k g, T' k = some g → T k = some g ∨ n ≤ g
theorem Grows.refl (n : Nat) (T : Nat → Option Nat) : Grows n T T := fun _ _ h => .inl h
theorem Grows.trans {n m : Nat} {T T' T'' : Nat → Option Nat} (h : Grows n T T') (h' : Grows m T' T'') (hn : n ≤ m) : Grows n T T'' := fun k g e => by
  rcases h' k g e with h1 | h1
  · exact h k g h1
  · exact .inr (by omega)
theorem Grows.foot {n B : Nat} {T T' : Nat → Option Nat} (h : Grows n T T') {j : Nat} (hj : Foot B T' j) (hn : j < n) : Foot B T j := by
  rcases hj with rfl | ⟨k, hk⟩
  · exact .inl rfl
  · rcases h k j hk with h1 | h1
    · exact .inr ⟨k, h1⟩
    · omega
theorem PagesAt.keeps {S : Nat → Prop} {w w' : World} {T : Nat → Option Nat} {M : Nat → Nat} (h : PagesAt w T M) (hk : Keeps S w w') (hn : ∀ k g, T k = some g → ¬ S g) : PagesAt w' T M :=
  ⟨fun k g e => ⟨((h.1 k g e).1).keeps hk (hn k g e), (h.1 k g e).2⟩, h.2⟩
theorem Held.keeps {S : Nat → Prop} {w w' : World} {B : Nat} {T : Nat → Option Nat} {M : Nat → Nat} (h : Held w B T M) (hk : Keeps S w w') (hn : ∀ j, Foot B T j → ¬ S j) : Held w' B T M :=
  ⟨h.1.keeps hk (hn B (.inl rfl)), h.2.keeps hk fun k g e => hn g (.inr ⟨k, e⟩)⟩
theorem Held.foot_lt {w : World} {B : Nat} {T : Nat → Option Nat} {M : Nat → Nat} (h : Held w B T M) {j : Nat} (hj : Foot B T j) : j < w.heap.size := by
  rcases hj with rfl | ⟨k, e⟩
  · exact h.1.lt
  · exact ((h.2.1 k j e).1).lt
theorem Held.below {w w' : World} {B : Nat} {T : Nat → Option Nat} {M : Nat → Nat} (h : Held w B T M) (hb : Below w.heap.size w w') : Held w' B T M :=
  h.keeps (Keeps.of_below (S := fun _ => False) hb) fun _ _ h => h
theorem Held.apart {w : World} {B : Nat} {T : Nat → Option Nat} {M : Nat → Nat} (h : Held w B T M) {k g : Nat} (e : T k = some g) : g ≠ B := fun e' => by
  have := (h.2.1 k g e).1
  rw [e'] at this
  exact h.1.no_row this
theorem Held.low {w : World} {B : Nat} {T : Nat → Option Nat} {M : Nat → Nat} (h : Held w B T M) {k g : Nat} (e : T k = some g) : k < pagesN := by
  rcases Nat.lt_or_ge k pagesN with h1 | h1
  · exact h1
  · rw [h.2.2.2.2.2 k h1] at e; cases e
theorem Held.made (w : World) : Held (w.alloc (.map #[] 0)) w.heap.size (fun _ => none) (fun _ => 0) :=
  ⟨by rw [cnt_zero]; exact MapT.made w, fun _ _ e => (by cases e), fun _ _ _ _ => rfl, fun _ _ _ e => (by cases e), fun _ => Nat.zero_lt_succ _, fun _ _ => rfl⟩
end Go.Proofs.YtlplbbnicfeoaaaGreat
/- Laws at the operations of bus' pages: a new page, a copy into a row, a page put into the map and taken out of it. Own work. -/
namespace Go.Proofs.YtlplbbnicfeoaaaGreat
open Go.RowKit Go.Maps
theorem slice_page (w : World) (g r : Nat) (hr : r < 4096) : (Instr.sliceAt 159 (.pointer (some ⟨g, 0, none⟩)) (some (.int .u64 (r : Int))) none none).run Tryz.prog w = .ok (.slice (some ⟨g, r, none⟩) (4096 - r) (4096 - r)) w := by
  obtain ⟨i, hi, _, hz1, _⟩ := info_parts info_byte
  have hs : (sizeOf 5).run Tryz.prog w = .ok 1 w := by simp only [sizeOf, typeInfo, Sem.run_bind, run_program, Result.andThen_ok, hi, Sem.run_pure, hz1]
  have hu : Tryz.prog.underlying 159 = some (.array 4096 5) := Tryz.underlying159
  have e : (⟨g, 0, none⟩ : Addr).add (r * 1) = ⟨g, r, none⟩ := by rw [Addr.add_mid]; simp
  have hb : ∀ code, (Instr.sliceBound (.int .u64 (r : Int)) 4096 code).run Tryz.prog w = .ok r w := fun code => by
    have h1 : (0 : Int) ≤ (r : Int) ∧ (r : Int) ≤ ((4096 : Nat) : Int) := by omega
    simp only [Instr.sliceBound, asIntOf, Sem.run_bind, Sem.run_pure, Result.andThen_ok, if_pos h1, Int.toNat_natCast]
  simp only [Instr.sliceAt, Instr.sureAddr, run_underlying hu, Sem.run_bind, Result.andThen_ok, Sem.run_pure, Instr.sliceBounds, hb, hs]
  rw [if_neg (by omega), e]
def zeros4 : List Nat := List.replicate 4096 0
theorem zeros4_page : zeros4 = pageOf (fun _ => 0) 0 := page_ext List.length_replicate fun i hi => by rw [zeros4, List.getElem?_replicate, if_pos hi]
theorem info_page : (Tryz.prog.info? 159).map (fun i => (i.zero, i.size)) = some (some (.agg (bvs zeros4).toArray), 4096) := by kernel_rfl
theorem run_new_page (w : World) : (Instr.alloc 159 true (.tuple #[])).run Tryz.prog w = .ok (.pointer (some ⟨w.heap.size, 0, none⟩)) (w.alloc (.cells (bvs zeros4).toArray 159)) := by
  have h := info_page
  cases hq : Tryz.prog.info? 159 with
  | none => rw [hq] at h; cases h
  | some i =>
    rw [hq] at h
    simp only [Option.map_some, Option.some.injEq, Prod.mk.injEq] at h
    have hz : (zeroValue 159).run Tryz.prog w = .ok (.agg (bvs zeros4).toArray) w := by
      simp only [zeroValue, typeInfo, Sem.run_bind, run_program, Result.andThen_ok, hq, h.1, Sem.run_pure]
    generalize bvs zeros4 = cs at hz ⊢
    simp only [Instr.alloc, Sem.run_bind, hz, Result.andThen_ok, Sem.run_pure, newVar, newRow, Value.cells]
    rfl
theorem wpList_new_page {w : World} {ops : Array Oper} {rest : List Oper} {o : Oper} {a : Act} {Q : Exit → Act → World → Prop} (hg : o.guard = none) (ho : o.op = .alloc 159)
    (h : ∀ w', w' = w.alloc (.cells (bvs zeros4).toArray 159) → wpList Tryz.prog ops Q rest (a.put o.dst (.pointer (some ⟨w.heap.size, 0, none⟩))) w') : wpList Tryz.prog ops Q (o :: rest) a w := by
  refine wpList_plain hg fun K hK => ?_
  unfold Oper.wp execOp
  simp only [ho, Sem.run_bind, Sem.run_pure, Result.andThen_ok, run_new_page]
  exact hK _ _ (h _ rfl)
theorem Keeps.setRow (w : World) (g : Nat) (cs : Array Value) : Keeps (fun j => j = g) w (w.setRow g cs) :=
  ⟨rfl, rfl, rfl, by simp [World.setRow], fun k _ hk => setRow_other w g k cs hk⟩
/-- bytes copied into the middle of a row -/
theorem wpList_copy_mid {w : World} {ops : Array Oper} {rest : List Oper} {o : Oper} {a : Act} {Q : Exit → Act → World → Prop} (hgd : o.guard = none) (d s : Operand)
    (ho : o.op = .call { callee := .builtin .copy, args := #[d, s], argTypes := #[104, 104] }) {g off dl dc : Nat} {v : Value} (hd : a.eval d = .slice (some ⟨g, off, none⟩) dl dc) (hs : a.eval s = v)
    {L zs : List Nat} {t : TypeId} (hg : w.heap[g]? = some (.cells (bvs L).toArray t (0, 0))) (n : Nat) (hn : n = min zs.length dl) (hz : Sl w v zs) (hfit : off + n ≤ L.length)
    (h : ∀ w', w'.heap[g]? = some (.cells (bvs (L.take off ++ zs.take n ++ L.drop (off + n))).toArray t (0, 0)) → Keeps (fun j => j = g) w w' → wpList Tryz.prog ops Q rest (a.put o.dst (goInt n)) w') : wpList Tryz.prog ops Q (o :: rest) a w := by
  obtain ⟨i, hi, hz0, hz1, hz2⟩ := info_parts info_byte
  have hsz : (Tryz.prog.info? 5).map (·.size) = some 1 := by rw [hi, Option.map_some, hz1]
  obtain ⟨ao, cap, rfl, h1, h2, h3, h4, h5⟩ := hz
  by_cases h0 : n = 0
  · subst h0
    refine wpList_copy_nothing hgd d s _ _ ho 5 Tryz.underlying104 hsz _ ao dl dc zs.length cap hd hs (by rw [Nat.min_def] at *; exact hn.symm) ?_
    exact h w (by simpa using hg) (Keeps.refl _ _)
  · have hlt : n ≤ zs.length := by omega
    obtain ⟨b, o', e, _⟩ := h5 0 (by omega)
    subst e
    have hcl : (bvs (zs.take n)).length = n := by rw [bvs_length, List.length_take]; omega
    refine wpList_copy_own hgd d s _ _ ho 5 Tryz.underlying104 hsz g off dl dc ⟨b, o', none⟩ zs.length cap hd hs _ t hg (bvs (zs.take n)) (by rw [hcl]; exact hn) ?_ (by rw [hcl]; simpa [bvs_length] using hfit) (bvs_one _) ?_
    · intro j u hj
      have hjl : j < n := by rw [← hcl]; exact (List.getElem?_eq_some_iff.1 hj).1
      obtain ⟨b', o'', e', hc⟩ := h5 j (by omega)
      cases e'
      rw [bvs_get _ j (by simp; omega)] at hj
      cases hj
      rw [Addr.add_lit, hc]
      simp only [List.getD_eq_getElem?_getD, List.getElem?_take_of_lt hjl]
    · rw [hcl]
      refine h _ ?_ (Keeps.setRow _ _ _)
      have e : ((bvs L).toArray.toList.take off ++ (bvs (zs.take n) ++ (bvs L).toArray.toList.drop (off + n))) = bvs (L.take off ++ zs.take n ++ L.drop (off + n)) := by
        rw [List.append_assoc, bvs_append, bvs_append]
        show (bvs L).take off ++ (bvs (zs.take n) ++ (bvs L).drop (off + n)) = _
        rw [bvs, ← List.map_take, ← List.map_drop]; rfl
      rw [e]
      exact setRow_heap w g _ _ t _ hg
theorem wpList_put_page {w : World} {ops : Array Oper} {rest : List Oper} {o : Oper} {a : Act} {Q : Exit → Act → World → Prop} (hgd : o.guard = none) (m x v : Operand) (ho : o.op = .mapUpdate 97 m x v)
    {B k g c : Nat} {T : Nat → Option Nat} (hm : a.eval m = .map (some B)) (hx : a.eval x = .int .u64 (k : Int)) (hv : a.eval v = .pointer (some ⟨g, 0, none⟩)) (hM : MapT w B T c) (hk : T k = none) (hb : k < 4503599627370496) (hc : c < maxLen)
    (h : ∀ w', MapT w' B (upd T k (some g)) (c + 1) → Keeps (fun j => j = B) w w' → wpList Tryz.prog ops Q rest (a.put o.dst undef) w') : wpList Tryz.prog ops Q (o :: rest) a w := by
  refine wpList_plain hgd fun K hK => ?_
  obtain ⟨w', hr, h2, h3⟩ := hM.put hk hb hc g
  unfold Oper.wp
  simp [execOp, ho, hm, hx, hv, hr, Result.andThen]
  exact hK _ _ (h w' h2 (Keeps.turned h3))
theorem wpList_del_page {w : World} {ops : Array Oper} {rest : List Oper} {o : Oper} {a : Act} {Q : Exit → Act → World → Prop} (hgd : o.guard = none) (m x : Operand) (ho : o.op = .call { callee := .builtin .delete, args := #[m, x], argTypes := #[97, 23] })
    {B k g c : Nat} {T : Nat → Option Nat} (hm : a.eval m = .map (some B)) (hx : a.eval x = .int .u64 (k : Int)) (hM : MapT w B T (c + 1)) (hk : T k = some g) (hb : k < 4503599627370496)
    (h : ∀ w', MapT w' B (upd T k none) c → Keeps (fun j => j = B) w w' → wpList Tryz.prog ops Q rest (a.put o.dst (.tuple #[])) w') : wpList Tryz.prog ops Q (o :: rest) a w := by
  refine wpList_plain hgd fun K hK => ?_
  obtain ⟨w', hr, h2, h3⟩ := hM.del hk hb o.type
  unfold Oper.wp
  simp [execOp, ho, resolve, invoke, builtin, hm, hx, hr, Result.andThen]
  exact hK _ _ (h w' h2 (Keeps.turned h3))
end Go.Proofs.YtlplbbnicfeoaaaGreat
/- zeros, within; one page's bytes laid down. Own work. -/
namespace Go.Proofs.YtlplbbnicfeoaaaGreat
open Go.RowKit Go.Maps
def allZ (zs : List Nat) : Bool := zs.all fun z => z == 0
set_option maxHeartbeats 1000000 in
theorem within_any {a n : Nat} (ha : a ≤ 18446744073709551615) (w : World) : Calls Tryz.prog 73 #[.int .u64 (a : Int), .int .i64 (n : Int)] w fun e w' => e = .returned (.int .i64 ((min n (4096 - a % 4096) : Nat) : Int)) ∧ w' = w := by
  go_enter Tryz.func73, Tryz.ntmps73
  have h1 : (((4096 - a % 4096 : Nat)) : Int) = 4096 - (a : Int) % 4096 := by omega
  have H1 : Hid ((((4096 - a % 4096 : Nat)) : Int) = 4096 - (a : Int) % 4096) := h1
  clear h1
  go_wp2
  · go_ret
    exact ⟨congrArg (fun z => Ending.returned (.int .i64 z)) (by have := H1.out; omega), rfl⟩
  · go_ret
    exact ⟨congrArg (fun z => Ending.returned (.int .i64 z)) (by have := H1.out; omega), rfl⟩
theorem allZ_take (zs : List Nat) (k : Nat) (h : k < zs.length) : allZ (zs.take (k + 1)) = (allZ (zs.take k) && (zs.getD k 0 == 0)) := by
  rw [List.take_succ_eq_append_getElem h, List.getD_eq_getElem?_getD, List.getElem?_eq_getElem h]
  unfold allZ
  rw [List.all_append]
  simp
theorem allZ_not (zs : List Nat) (k : Nat) (h : k < zs.length) (hz : zs.getD k 0 ≠ 0) : allZ zs = false := by
  cases e : allZ zs with
  | false => rfl
  | true =>
    have := List.all_eq_true.1 e _ (List.getElem_mem h)
    rw [List.getD_eq_getElem?_getD, List.getElem?_eq_getElem h] at hz
    exact absurd (by simpa using this) hz
set_option maxHeartbeats 1000000 in
theorem zeros_some (b o cap : Nat) (zs : List Nat) (w : World) (hc : zs.length ≤ cap) (hm : cap ≤ maxLen)
    (hcell : ∀ i, i < zs.length → w.cell? ⟨b, o + i, none⟩ = some (.int .u8 (zs.getD i 0 : Nat))) :
    Calls Tryz.prog 89 #[.slice (some ⟨b, o, none⟩) zs.length cap] w fun e w' => e = .returned (.bool (allZ zs)) ∧ w' = w := by
  unfold maxLen at hm
  have HC : Hid (∀ i, i < zs.length → w.cell? ⟨b, o + i, none⟩ = some (.int .u8 (zs.getD i 0 : Nat))) := hcell
  clear hcell
  go_enter Tryz.func89, Tryz.ntmps89
  go_wp2
  go_loop [7] (fun i => ∃ k : Nat, k ≤ zs.length ∧ i = .int .i64 (k : Int) ∧ Hid (allZ (zs.take k) = true)) (fun i => zs.length - (intOf i).toNat)
  case atStart => exact ⟨0, Nat.zero_le _, rfl, rfl⟩
  case round =>
    obtain ⟨k, hk, rfl, HZ⟩ := hrel
    by_cases hlt : k < zs.length
    · have hck := HC.out k hlt
      have HT : Hid (allZ (zs.take (k + 1)) = (allZ (zs.take k) && (zs.getD k 0 == 0))) := allZ_take zs k hlt
      have HN : Hid (zs.getD k 0 ≠ 0 → allZ zs = false) := allZ_not zs k hlt
      generalize zs.getD k 0 = z at *
      by_cases hz : z = 0
      · subst hz
        go_wp2
        go_round
        case rel => exact ⟨k + 1, by omega, by go_num, by show _ = _; rw [HT.out, HZ.out]; rfl⟩
        case measure => simp [intOf]; omega
      · have hz2 : ¬ (z : Int) = 0 := by omega
        go_wp2
        go_ret
        exact ⟨by rw [HN.out hz]; rfl, rfl⟩
    · have HE : Hid (allZ zs = true) := by have := HZ.out; rwa [List.take_of_length_le (by omega)] at this
      go_wp2
      go_ret
      exact ⟨by rw [HE.out]; rfl, rfl⟩
set_option maxHeartbeats 1000000 in
theorem zeros_none (ao : Option Addr) (cap : Nat) (w : World) : Calls Tryz.prog 89 #[.slice ao 0 cap] w fun e w' => e = .returned (.bool (allZ [])) ∧ w' = w := by
  have HE : Hid (allZ [] = true) := (rfl : _ = _)
  go_enter Tryz.func89, Tryz.ntmps89
  go_wp2
  go_loop [7] (fun i => i = .int .i64 0) (fun _ => 0)
  case atStart => rfl
  case round =>
    subst hrel
    go_wp2
    go_ret
    exact ⟨by rw [HE.out]; rfl, rfl⟩
theorem zeros_any {v : Value} {zs : List Nat} {w : World} (hv : Sl w v zs) : Calls Tryz.prog 89 #[v] w fun e w' => e = .returned (.bool (allZ zs)) ∧ w' = w := by
  by_cases hp : 0 < zs.length
  · obtain ⟨b, o, cap, rfl, h1, h2, h3, h4⟩ := hv.pos hp
    exact zeros_some b o cap zs w h1 h2 h4
  · obtain rfl : zs = [] := List.eq_nil_of_length_eq_zero (by omega)
    obtain ⟨ao, cap, rfl, h1, h2, h3, h4, h5⟩ := hv
    exact zeros_none ao cap w
end Go.Proofs.YtlplbbnicfeoaaaGreat
