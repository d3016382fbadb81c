import Derived.Test.YtgjamnhepbblhaaPk21
import Derived.Test.YtgjamnhepbblhaaPk08
import Derived.Test.YtgjamnhepbblhaaPk05
/- Pages: the document's has, find, reach, unit. Own work. -/
namespace Go.Proofs.Ytgjamnhepbblhaa
open Go.RowKit Wk
set_option linter.unusedVariables false
set_option maxRecDepth 20000
theorem preach_any {l r : Nat} (h : (l = 0 ∧ r = 549755813888) ∨ (l = 1 ∧ r = 1073741824) ∨ (l = 2 ∧ r = 2097152)) (w : World) : Calls Try.prog 29 #[.int .i64 (l : Int)] w fun e w' => e = .returned (.int .u64 (r : Int)) ∧ Below w.heap.size w w' := by
  rcases h with ⟨rfl, rfl⟩ | ⟨rfl, rfl⟩ | ⟨rfl, rfl⟩
  all_goals
    go_enter Try.func29, Try.ntmps29
    go_wp2_with fail
    go_ret
    exact ⟨rfl, (Below.refl _ _).alloc (Nat.le_refl _) _⟩
set_option maxHeartbeats 1000000 in
theorem runit_any (x : L6) (w : World) : Calls Try.prog 24 #[V6 x] w fun e w' => e = .returned (.int .u64 (unitF x : Int)) ∧ Below w.heap.size w w' := by
  obtain ⟨v, p, n, big, wr, ex⟩ := x
  unfold V6 unitF
  cases big with
  | true =>
    go_enter Try.func24, Try.ntmps24
    go_wp2_with fail
    go_ret
    exact ⟨rfl, (Below.refl _ _).alloc (Nat.le_refl _) _⟩
  | false =>
    go_enter Try.func24, Try.ntmps24
    go_wp2_with fail
    go_ret
    exact ⟨rfl, (Below.refl _ _).alloc (Nat.le_refl _) _⟩
theorem vq_inj {y : Nat × Nat} {lv k : Nat} (hl : lv = 1 ∨ lv = 2) (h1 : y.1 = lv) (h2 : vq y = vq (lv, k)) : y = (lv, k) := by
  obtain ⟨a, b⟩ := y
  simp only at h1
  subst h1
  unfold vq at h2
  rcases hl with rfl | rfl
  · simp only [if_true] at h2
    have : b = k := by omega
    rw [this]
  · simp only [show ¬ ((2 : Nat) = 1) by decide, if_false, if_true] at h2
    have : b = k := by omega
    rw [this]
theorem getD_get {ts : List (Nat × Nat)} {i : Nat} (h : i < ts.length) : ts.getD i (0, 0) = ts[i] := by simp [List.getD, h]
set_option maxHeartbeats 4000000 in
theorem has_any {w : World} {b g cap : Nat} {ts : List (Nat × Nat)} {E : Nat → Nat} (h : OwnQ w b (.slice (some ⟨g, 0, none⟩) ts.length cap) ts E) (hlen : ts.length ≤ 2000) {lv k V : Nat} (hl : lv = 1 ∨ lv = 2) (hV : vq (lv, k) = V) (hcap : ts.length ≤ cap) : Calls Try.prog 37 #[.slice (some ⟨g, 0, none⟩) ts.length cap, .int .i64 (lv : Int), .int .u64 (V : Int)] w fun e w' => e = .returned (.bool (decide ((lv, k) ∈ ts))) ∧ Below w.heap.size w w' := by
  have HQ := Lib.hid h
  obtain ⟨n, hn⟩ : ∃ n, ts.length = n := ⟨_, rfl⟩
  have HN := Lib.hid hn
  have HV := Lib.hid hV
  have HLv := Lib.hid hl
  rw [hn] at hlen hcap ⊢
  have HB0 : Hid (Below w.heap.size w w) := Below.refl _ _
  have HA0 : Hid (∀ i, n ≤ i → ts[i]? ≠ some (lv, k)) := fun i hi => by rw [List.getElem?_eq_none (by omega)]; exact fun e => by cases e
  have w0 : IntKind.i64.wrap ((n : Int) - 1) = (n : Int) - 1 := by rw [IntKind.wrap_i64]; omega
  clear h hn hl hV
  go_enter Try.func37, Try.ntmps37
  go_wp2_with fail
  go_loopw [7] (fun iv wr => ∃ (j : Nat) (z : Int), j ≤ n ∧ iv = .int .i64 z ∧ z = (j : Int) - 1 ∧ Hid (∀ i, j ≤ i → ts[i]? ≠ some (lv, k)) ∧ Hid (Below w.heap.size w wr)) (fun iv _ => (intOf iv + 1).toNat)
  case atStart => exact ⟨n, (n : Int) - 1, Nat.le_refl _, rfl, rfl, HA0, HB0⟩
  case round =>
    clear HB0 HA0 w0
    obtain ⟨j, z, hj, rfl, hz, HA, HB⟩ := hrel
    by_cases hj0 : j = 0
    · have jz : ¬ (0 : Int) ≤ z := by omega
      have HR : Hid (decide ((lv, k) ∈ ts) = false) := Lib.hid (decide_eq_false (fun hm => by
        obtain ⟨i, hi⟩ := List.mem_iff_getElem?.1 hm
        exact HA.out i (by omega) hi))
      clear HA
      go_wp2_with fail
      go_ret
      exact ⟨by rw [HR.out]; rfl, HB.out⟩
    · obtain ⟨i, rfl⟩ : ∃ i, j = i + 1 := ⟨j - 1, by omega⟩
      have hz2 : z = (i : Int) := by omega
      subst hz2
      have hi : i < ts.length := by rw [HN.out]; omega
      have jz : (0 : Int) ≤ (i : Int) := by omega
      have jn : (i : Int) < (n : Int) := by omega
      have wz : IntKind.i64.wrap ((i : Int) - 1) = (i : Int) - 1 := by rw [IntKind.wrap_i64]; omega
      have HQw : Hid (OwnQ wr b (.slice (some ⟨g, 0, none⟩) ts.length cap) ts E) := HQ.out.below HB.out
      have d0 := HQw.out.cell (i := i) (r := 0) hi (by decide)
      have d1 := HQw.out.cell (i := i) (r := 1) hi (by decide)
      unfold cq at d0 d1
      rw [getD_get hi, if_pos rfl] at d0
      rw [getD_get hi, if_neg (by decide), if_pos rfl] at d1
      have HY : Hid (ts[i]? = some ts[i]) := Lib.hid (List.getElem?_eq_getElem hi)
      generalize ts[i] = y at *
      obtain ⟨l0, hl0⟩ : ∃ l0, y.1 = l0 := ⟨_, rfl⟩
      obtain ⟨v0, hv0⟩ : ∃ v0, vq y = v0 := ⟨_, rfl⟩
      rw [hl0] at d0
      rw [hv0] at d1
      rw [Nat.add_zero] at d0
      have HL0 := Lib.hid hl0
      have HV0 := Lib.hid hv0
      clear hl0 hv0 hz
      by_cases h1 : l0 = lv
      · by_cases h2 : v0 = V
        · have HR : Hid (decide ((lv, k) ∈ ts) = true) := Lib.hid (decide_eq_true (by
            have e : y = (lv, k) := vq_inj HLv.out (HL0.out.trans h1) (by rw [HV0.out, h2, HV.out])
            exact List.mem_iff_getElem?.2 ⟨i, by rw [HY.out, e]⟩))
          subst h1 h2
          go_wp2_with fail
          go_ret
          exact ⟨by rw [HR.out]; rfl, HB.out⟩
        · have j2 : ¬ (v0 : Int) = (V : Int) := by omega
          have HA2 : Hid (∀ q, i ≤ q → ts[q]? ≠ some (lv, k)) := fun q hq e => by
            by_cases hqi : q = i
            · rw [hqi, HY.out] at e
              cases e
              exact h2 (by rw [← HV0.out, HV.out])
            · exact HA.out q (by omega) e
          subst h1
          clear HA
          go_wp2_with fail
          go_roundw
          case rel => exact ⟨i, (i : Int) - 1, by omega, rfl, rfl, HA2, HB⟩
          case measure => simp [intOf]
      · have j1 : ¬ (l0 : Int) = (lv : Int) := by omega
        have HA2 : Hid (∀ q, i ≤ q → ts[q]? ≠ some (lv, k)) := fun q hq e => by
          by_cases hqi : q = i
          · rw [hqi, HY.out] at e
            cases e
            exact h1 HL0.out.symm
          · exact HA.out q (by omega) e
        clear HA
        go_wp2_with fail
        go_roundw
        case rel => exact ⟨i, (i : Int) - 1, by omega, rfl, rfl, HA2, HB⟩
        case measure => simp [intOf]
set_option maxHeartbeats 4000000 in
theorem find_any {w : World} {b g cap : Nat} {ts : List (Nat × Nat)} {E : Nat → Nat} (h : OwnQ w b (.slice (some ⟨g, 0, none⟩) ts.length cap) ts E) (hlen : ts.length ≤ 2000) {lv k V I : Nat} (hl : lv = 1 ∨ lv = 2) (hV : vq (lv, k) = V) (hcap : ts.length ≤ cap) (hI : ts[I]? = some (lv, k)) (hF : ∀ i, ts[i]? = some (lv, k) → i = I) : Calls Try.prog 30 #[.slice (some ⟨g, 0, none⟩) ts.length cap, .int .i64 (lv : Int), .int .u64 (V : Int)] w fun e w' => e = .returned (.int .i64 (I : Int)) ∧ Below w.heap.size w w' := by
  have HQ := Lib.hid h
  obtain ⟨n, hn⟩ : ∃ n, ts.length = n := ⟨_, rfl⟩
  have HN := Lib.hid hn
  have HV := Lib.hid hV
  have HLv := Lib.hid hl
  have HI := Lib.hid hI
  have HF := Lib.hid hF
  have hIn : I < n := by rw [← hn]; exact (List.getElem?_eq_some_iff.1 hI).1
  rw [hn] at hlen hcap ⊢
  have HB0 : Hid (Below w.heap.size w w) := Below.refl _ _
  clear h hn hl hV hI hF
  go_enter Try.func30, Try.ntmps30
  go_wp2_with fail
  go_loopw [7] (fun iv wr => ∃ (i : Nat), i ≤ I ∧ iv = .int .i64 (i : Int) ∧ Hid (Below w.heap.size w wr)) (fun iv _ => n - (intOf iv).toNat)
  case atStart => exact ⟨0, Nat.zero_le _, rfl, HB0⟩
  case round =>
    clear HB0
    obtain ⟨i, hiI, rfl, HB⟩ := hrel
    have hi : i < ts.length := by rw [HN.out]; omega
    have jn : (i : Int) < (n : Int) := by omega
    have wz : IntKind.i64.wrap ((i : Int) + 1) = ((i + 1 : Nat) : Int) := by rw [IntKind.wrap_i64]; omega
    have HQw : Hid (OwnQ wr b (.slice (some ⟨g, 0, none⟩) ts.length cap) ts E) := HQ.out.below HB.out
    have d0 := HQw.out.cell (i := i) (r := 0) hi (by decide)
    have d1 := HQw.out.cell (i := i) (r := 1) hi (by decide)
    unfold cq at d0 d1
    rw [getD_get hi, if_pos rfl] at d0
    rw [getD_get hi, if_neg (by decide), if_pos rfl] at d1
    have HY : Hid (ts[i]? = some ts[i]) := Lib.hid (List.getElem?_eq_getElem hi)
    generalize ts[i] = y at *
    obtain ⟨l0, hl0⟩ : ∃ l0, y.1 = l0 := ⟨_, rfl⟩
    obtain ⟨v0, hv0⟩ : ∃ v0, vq y = v0 := ⟨_, rfl⟩
    rw [hl0] at d0
    rw [hv0] at d1
    rw [Nat.add_zero] at d0
    have HL0 := Lib.hid hl0
    have HV0 := Lib.hid hv0
    clear hl0 hv0
    by_cases hiE : i = I
    · have e : y = (lv, k) := by
        have h5 := HI.out
        rw [← hiE, HY.out] at h5
        cases h5
        rfl
      have h1 : l0 = lv := by rw [← HL0.out, e]
      have h2 : v0 = V := by rw [← HV0.out, e, HV.out]
      subst h1 h2 hiE
      clear e
      go_wp2_with fail
      go_ret
      exact ⟨rfl, HB.out⟩
    · have hne : ¬ (l0 = lv ∧ v0 = V) := fun ⟨h1, h2⟩ => by
        have e : y = (lv, k) := vq_inj HLv.out (HL0.out.trans h1) (by rw [HV0.out, h2, HV.out])
        exact hiE (HF.out i (by rw [HY.out, e]))
      by_cases h1 : l0 = lv
      · have j2 : ¬ (v0 : Int) = (V : Int) := fun e => hne ⟨h1, by omega⟩
        subst h1
        clear hne
        go_wp2_with fail
        go_roundw
        case rel => exact ⟨i + 1, by omega, rfl, HB⟩
        case measure => simp [intOf]; omega
      · have j1 : ¬ (l0 : Int) = (lv : Int) := by omega
        clear hne
        go_wp2_with fail
        go_roundw
        case rel => exact ⟨i + 1, by omega, rfl, HB⟩
        case measure => simp [intOf]; omega
end Go.Proofs.Ytgjamnhepbblhaa
/- Pages: the entries that the builder makes. Own work. -/
namespace Go.Proofs.Ytgjamnhepbblhaa
open Go.RowKit Wk
set_option linter.unusedVariables false
set_option maxRecDepth 20000
theorem fr_of {F k : Nat} (hF : F % 4096 = 0) (hl : F < 4294967296) (hk : k < 16) : fr (F + k) = F ∧ (F + k) % 16 = k := by
  unfold fr
  omega
theorem fl_lt (b w x : Bool) : 1 + nbit w 2 + nbit x 4 + nbit b 8 < 16 := by cases b <;> cases w <;> cases x <;> decide
theorem bits_of {F : Nat} (hF : F % 4096 = 0) (b w x : Bool) : bit1 (F + (1 + nbit w 2 + nbit x 4 + nbit b 8)) = w ∧ bit2 (F + (1 + nbit w 2 + nbit x 4 + nbit b 8)) = x ∧ bit3 (F + (1 + nbit w 2 + nbit x 4 + nbit b 8)) = b ∧ (F + (1 + nbit w 2 + nbit x 4 + nbit b 8)) % 2 = 1 ∧ (F + (1 + nbit w 2 + nbit x 4 + nbit b 8)) / 2 % 8 = (1 + nbit w 2 + nbit x 4 + nbit b 8) / 2 ∧ (F + (1 + nbit w 2 + nbit x 4 + nbit b 8)) / 2 % 4 = (1 + nbit w 2 + nbit x 4 + nbit b 8) / 2 % 4 := by
  obtain ⟨q, rfl⟩ : ∃ q, F = 16 * q := ⟨F / 16, by omega⟩
  clear hF
  unfold bit1 bit2 bit3
  have e1 : ∀ k, k < 16 → (16 * q + k) / 2 % 2 = k / 2 % 2 := fun k hk => by omega
  have e2 : ∀ k, k < 16 → (16 * q + k) / 4 % 2 = k / 4 % 2 := fun k hk => by omega
  have e3 : ∀ k, k < 16 → (16 * q + k) / 8 % 2 = k / 8 % 2 := fun k hk => by omega
  have e4 : ∀ k, k < 16 → (16 * q + k) % 2 = k % 2 := fun k hk => by omega
  have e5 : ∀ k, k < 16 → (16 * q + k) / 2 % 8 = k / 2 := fun k hk => by omega
  have e6 : ∀ k, k < 16 → (16 * q + k) / 2 % 4 = k / 2 % 4 := fun k hk => by omega
  rw [e1 _ (fl_lt b w x), e2 _ (fl_lt b w x), e3 _ (fl_lt b w x), e4 _ (fl_lt b w x), e5 _ (fl_lt b w x), e6 _ (fl_lt b w x)]
  cases b <;> cases w <;> cases x <;> decide
theorem bare_of {F : Nat} (hF : F % 4096 = 0) (hl : F < 4294967296) (b w x : Bool) : bare (F + (1 + nbit w 2 + nbit x 4 + nbit b 8)) = true := by
  obtain ⟨f1, f2⟩ := fr_of hF hl (fl_lt b w x)
  unfold bare
  rw [f1, f2]
  exact beq_self_eq_true _
/-- the entry that names a table, at level 0 or 1 -/
theorem ent_tab {F : Nat} (hF : F % 4096 = 0) (hl : F < 4294967296) {l : Int} (h : l = 0 ∨ l = 1) : entB (F + 1) l = ((F, true, false, false, false), 0) := by
  obtain ⟨b1, b2, b3, b4, b5, b6⟩ := bits_of hF false false false
  have hb := bare_of hF hl false false false
  obtain ⟨f1, f2⟩ := fr_of hF hl (fl_lt false false false)
  have e : 1 + nbit false 2 + nbit false 4 + nbit false 8 = 1 := rfl
  rw [e] at b1 b2 b3 b4 b5 b6 hb f1 f2
  unfold entB
  rw [if_neg (by omega), if_neg (by omega)]
  have hs : sound (F + 1) l = true := by
    unfold sound
    rw [hb, b3, b5, b6]
    rcases h with rfl | rfl <;> rfl
  rw [if_pos hs]
  unfold says
  rw [f1, b1, b2, b3]
  rcases h with rfl | rfl <;> rfl
/-- the entry of a big leaf -/
theorem ent_big {F : Nat} (hF : F % 2097152 = 0) (hl : F < 4294967296) (w x : Bool) : entB (F + (1 + nbit w 2 + nbit x 4 + nbit true 8)) 1 = ((F, false, true, w, x), 0) := by
  have h4 : F % 4096 = 0 := by omega
  obtain ⟨b1, b2, b3, b4, b5, b6⟩ := bits_of h4 true w x
  have hb := bare_of h4 hl true w x
  obtain ⟨f1, f2⟩ := fr_of h4 hl (fl_lt true w x)
  generalize F + (1 + nbit w 2 + nbit x 4 + nbit true 8) = e at *
  unfold entB
  rw [if_neg (by omega), if_neg (by omega)]
  have hs : sound e 1 = true := by
    unfold sound
    rw [hb, b3, f1, hF]
    rfl
  rw [if_pos hs]
  unfold says
  rw [f1, b1, b2, b3]
  rfl
/-- the entry of a page -/
theorem ent_page {F : Nat} (hF : F % 4096 = 0) (hl : F < 4294967296) (w x : Bool) : entB (F + (1 + nbit w 2 + nbit x 4 + nbit false 8)) 2 = ((F, false, false, w, x), 0) := by
  obtain ⟨b1, b2, b3, b4, b5, b6⟩ := bits_of hF false w x
  have hb := bare_of hF hl false w x
  obtain ⟨f1, f2⟩ := fr_of hF hl (fl_lt false w x)
  generalize F + (1 + nbit w 2 + nbit x 4 + nbit false 8) = e at *
  unfold entB
  rw [if_neg (by omega), if_neg (by omega)]
  have hs : sound e 2 = true := by
    unfold sound
    rw [hb, b3]
    rfl
  rw [if_pos hs]
  unfold says
  rw [f1, b1, b2, b3]
  rfl
theorem mk_of {x : Ent} {l : Int} {e : Nat} (hl : ¬ (l < 0 ∨ 2 < l)) (hr : rawE x = e) (h : entB e l = (x, 0)) : makeB x l = (e, 0) := by
  unfold makeB
  rw [if_neg hl, hr, if_pos h]
theorem mk_tab {F : Nat} (hF : F % 4096 = 0) (hl : F < 4294967296) {l : Int} (h : l = 0 ∨ l = 1) : makeB (F, true, false, false, false) l = (F + 1, 0) := mk_of (by omega) (raw_page hF false false false) (ent_tab hF hl h)
theorem mk_big {F : Nat} (hF : F % 2097152 = 0) (hl : F < 4294967296) (w x : Bool) : makeB (F, false, true, w, x) 1 = (F + (1 + nbit w 2 + nbit x 4 + nbit true 8), 0) := mk_of (by omega) (raw_page (by omega) true w x) (ent_big hF hl w x)
theorem mk_page {F : Nat} (hF : F % 4096 = 0) (hl : F < 4294967296) (w x : Bool) : makeB (F, false, false, w, x) 2 = (F + (1 + nbit w 2 + nbit x 4 + nbit false 8), 0) := mk_of (by omega) (raw_page hF false w x) (ent_page hF hl w x)
theorem ent_none (l : Int) (h : l = 0 ∨ l = 1 ∨ l = 2) : entB 0 l = (no, 41) := by
  unfold entB
  rw [if_neg (by omega), if_pos rfl]
end Go.Proofs.Ytgjamnhepbblhaa
