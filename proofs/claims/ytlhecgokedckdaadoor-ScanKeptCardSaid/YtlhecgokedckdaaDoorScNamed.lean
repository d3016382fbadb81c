/- Scan: strings.Cut at a point; decimal; Named. -/
import Derived.Test.YtlhecgokedckdaaDoorScLegal
import Derived.Test.YtlhecgokedckdaaDoorScInt
import Derived.Laws.Externs
namespace Go.Proofs.YtlhecgokedckdaaDoor
open Go.RowKit
namespace Sc
/-- what stands ahead of the first point, what behind it, and whether there is one -/
def cutF : List Nat → List Nat × List Nat × Bool
  | [] => ([], [], false)
  | b :: l => if b = 46 then ([], l, true) else (b :: (cutF l).1, (cutF l).2.1, (cutF l).2.2)
def digsF : Nat → List Nat → Bool
  | _, [] => true
  | n, b :: l => if cls b ≠ 6 then false else if over n 10 (value b) then false else digsF (n * 10 + value b) l
def decimalF (l : List Nat) : Bool := !l.isEmpty && !(decide (l.headD 0 = 48) && decide (l ≠ [48])) && digsF 0 l
def idxF : Nat → Bool → List Nat → Bool
  | 0, _, _ => true
  | _ + 1, false, _ => true
  | f + 1, true, l => decimalF (cutF l).1 && idxF f (cutF l).2.2 (cutF l).2.1
def namedF (l : List Nat) : Bool := decide (l.length ≤ 64) && (legalF (cutF l).1 && idxF (l.length + 1) (cutF l).2.2 (cutF l).2.1)
theorem cutF_yes : ∀ (l : List Nat), (cutF l).2.2 = true → (cutF l).1.length < l.length ∧ l.getD (cutF l).1.length 0 = 46 ∧ (cutF l).1 = l.take (cutF l).1.length ∧ (cutF l).2.1 = l.drop ((cutF l).1.length + 1) ∧ ∀ j, j < (cutF l).1.length → l.getD j 0 ≠ 46
  | [], h => by simp [cutF] at h
  | b :: l, h => by
    by_cases hb : b = 46
    · simp [cutF, hb]
    · have ih := cutF_yes l (by simpa [cutF, hb] using h)
      rw [cutF, if_neg hb]
      simp only [List.length_cons]
      refine ⟨by omega, ?_, ?_, ?_, ?_⟩
      · exact ih.2.1
      · rw [List.take_succ_cons, ← ih.2.2.1]
      · exact ih.2.2.2.1
      · intro j hj
        cases j with
        | zero => exact hb
        | succ j => exact ih.2.2.2.2 j (by omega)
theorem cutF_no : ∀ (l : List Nat), (cutF l).2.2 = false → (cutF l).1 = l ∧ (cutF l).2.1 = [] ∧ ∀ j, j < l.length → l.getD j 0 ≠ 46
  | [], _ => ⟨rfl, rfl, fun j h => absurd h (Nat.not_lt_zero j)⟩
  | b :: l, h => by
    by_cases hb : b = 46
    · simp [cutF, hb] at h
    · have ih := cutF_no l (by simpa [cutF, hb] using h)
      rw [cutF, if_neg hb]
      refine ⟨by rw [ih.1], ih.2.1, ?_⟩
      intro j hj
      cases j with
      | zero => exact hb
      | succ j => exact ih.2.2 j (by simpa using hj)
theorem cutF_len (l : List Nat) : (cutF l).2.1.length ≤ l.length := by
  cases h : (cutF l).2.2 with
  | true => rw [(cutF_yes l h).2.2.2.1]; simp
  | false => rw [(cutF_no l h).2.1]; simp
theorem cutF_less (l : List Nat) (h : (cutF l).2.2 = true) : (cutF l).2.1.length < l.length := by
  have := cutF_yes l h
  rw [this.2.2.2.1]
  simp
  omega
end Sc
theorem getBang (s : ByteArray) (i : Nat) (h : i < s.size) : s[i]!.toNat = (sb s).getD i 0 := by
  rw [sb_get s i h, getElem!_pos s i h]
theorem byte46 (s : ByteArray) (i : Nat) (h : i < s.size) : (s[i]! == (46 : UInt8)) = decide ((sb s).getD i 0 = 46) := by
  rw [← getBang s i h]
  by_cases e : s[i]! = 46
  · rw [e]; rfl
  · rw [beq_eq_false_iff_ne.2 e]
    symm
    refine decide_eq_false fun h2 => e ?_
    exact UInt8.toNat_inj.1 h2
theorem firstIdx_yes {s : ByteArray} (h : (Sc.cutF (sb s)).2.2 = true) : firstIdx s 46 = ((Sc.cutF (sb s)).1.length : Int) := by
  obtain ⟨h1, h2, _, _, h5⟩ := Sc.cutF_yes _ h
  have hl := sb_length s
  unfold firstIdx
  have : (List.range s.size).find? (fun i => s[i]! == (46 : UInt8)) = some (Sc.cutF (sb s)).1.length := by
    rw [List.find?_range_eq_some]
    refine ⟨by rw [byte46 s _ (by omega)]; exact decide_eq_true h2, by rw [List.mem_range]; omega, fun j hj => ?_⟩
    rw [byte46 s j (by omega), decide_eq_false (h5 j hj)]
    rfl
  rw [this]
theorem sb_extract (s : ByteArray) (a b : Nat) : sb (s.extract a b) = ((sb s).drop a).take (b - a) := by
  obtain ⟨d⟩ := s
  have h := ByteArray.extract_mk d.toList a b
  rw [Array.toArray_toList] at h
  rw [h]
  simp [sb, List.map_take, List.map_drop]
theorem cut_front (s : ByteArray) (x : List Nat) (h : x = (sb s).take x.length) : mkS x = s.extract 0 x.length := by
  rw [← mkS_sb (s.extract 0 x.length), sb_extract, List.drop_zero, Nat.sub_zero, ← h]
theorem cut_back (s : ByteArray) (x : List Nat) {k : Nat} (h : x = (sb s).drop (k + 1)) : mkS x = s.extract (k + 1) s.size := by
  rw [← mkS_sb (s.extract (k + 1) s.size), sb_extract, h, List.take_of_length_le (by rw [List.length_drop, sb_length]; omega)]
theorem firstIdx_no {s : ByteArray} (h : (Sc.cutF (sb s)).2.2 = false) : firstIdx s 46 = -1 := by
  obtain ⟨_, _, h5⟩ := Sc.cutF_no _ h
  have hl := sb_length s
  unfold firstIdx
  have : (List.range s.size).find? (fun i => s[i]! == (46 : UInt8)) = none := by
    rw [List.find?_eq_none]
    intro j hj
    have hj' : j < s.size := List.mem_range.1 hj
    rw [byte46 s j hj', decide_eq_false (h5 j (by omega))]
    simp
  rw [this]
set_option maxHeartbeats 400000 in
theorem indexByte_any (s : ByteArray) (w : World) : Calls Tryd.prog 65 #[.string s, .int .u8 46] w fun e w' => e = .returned (.int .i64 (firstIdx s 46)) ∧ w' = w := by
  have hx : ∀ w, (callFunc 69 #[.string s, .int .u8 46]).run Tryd.prog w = .ok (.value (.int .i64 (firstIdx s 46))) w := fun w => by
    rw [run_callFunc_extern Tryd.func69 (by kernel_rfl) (by kernel_rfl) (by kernel_rfl) (e := Extern.BytealgIndexByte.indexByte) (by kernel_rfl), run_indexByte_string]
    rfl
  generalize firstIdx s 46 = x at *
  go_enter Tryd.func65, Tryd.ntmps65
  go_wp2
  go_ret
  exact ⟨rfl, rfl⟩
set_option maxRecDepth 100000 in
set_option maxHeartbeats 400000 in
theorem index_any (s : ByteArray) (w : World) : Calls Tryd.prog 62 #[.string s, .string ⟨#[46]⟩] w fun e w' => e = .returned (.int .i64 (firstIdx s 46)) ∧ w' = w := by
  have HX : Hid (Calls Tryd.prog 65 #[.string s, .int .u8 46] w fun e w' => e = .returned (.int .i64 (firstIdx s 46)) ∧ w' = w) := indexByte_any s w
  by_cases he : s = ⟨#[46]⟩
  · subst he
    have h0 : firstIdx ⟨#[46]⟩ 46 = 0 := by decide
    rw [h0] at HX ⊢
    go_enter Tryd.func62, Tryd.ntmps62
    go_wp2
    go_ret
    exact ⟨rfl, rfl⟩
  · have q : ([(46 : UInt8)] == s.toList) = false := by
      have := str_ne (m := ⟨#[46]⟩) (s := s) (fun e => he e.symm)
      rwa [show (⟨#[46]⟩ : ByteArray).toList = [46] from by rw [ByteArray.toList_eq]] at this
    generalize firstIdx s 46 = x at *
    go_enter Tryd.func62, Tryd.ntmps62
    go_wp2_with fail
    refine HX.out.mono ?_
    rintro e w1 ⟨rfl, rfl⟩
    go_wp2
    go_ret
    exact ⟨rfl, rfl⟩
/-- what Cut answers -/
def cutV (l : List Nat) : Value := .tuple #[.string (mkS (Sc.cutF l).1), .string (mkS (Sc.cutF l).2.1), .bool (Sc.cutF l).2.2]
set_option maxRecDepth 100000 in
set_option maxHeartbeats 400000 in
theorem scut_any (s : ByteArray) (hsz : s.size ≤ 1000) (w : World) : Calls Tryd.prog 56 #[.string s, .string ⟨#[46]⟩] w fun e w' => e = .returned (cutV (sb s)) ∧ Below w.heap.size w w' := by
  have HX : Hid (Calls Tryd.prog 62 #[.string s, .string ⟨#[46]⟩] w fun e w' => e = .returned (.int .i64 (firstIdx s 46)) ∧ w' = w) := index_any s w
  have hl := sb_length s
  unfold cutV
  cases hc : (Sc.cutF (sb s)).2.2 with
  | false =>
    obtain ⟨h1, h2, _⟩ := Sc.cutF_no _ hc
    rw [h1, h2, mkS_sb]
    rw [firstIdx_no hc] at HX
    clear h1 h2 hc hl
    go_enter Tryd.func56, Tryd.ntmps56
    go_wp2_with fail
    refine HX.out.mono ?_
    rintro e w1 ⟨rfl, rfl⟩
    go_wp2
    go_ret3
    exact ⟨rfl, Below.refl _ _⟩
  | true =>
    obtain ⟨h1, h2, h3, h4, _⟩ := Sc.cutF_yes _ hc
    rw [firstIdx_yes hc] at HX
    have s1 : mkS (Sc.cutF (sb s)).1 = s.extract 0 (Sc.cutF (sb s)).1.length := cut_front s _ h3
    have s2 : mkS (Sc.cutF (sb s)).2.1 = s.extract ((Sc.cutF (sb s)).1.length + 1) s.size := cut_back s _ h4
    rw [s1, s2]
    clear s1 s2 h3 h4 h2 hc
    generalize (Sc.cutF (sb s)).1.length = k at *
    have i1 : (k : Int) ≤ (s.size : Int) := by omega
    have i2 : (k : Int) + 1 ≤ (s.size : Int) := by omega
    have i3 : (0 : Int) ≤ (k : Int) + 1 := by omega
    have i4 : ((k : Int) + 1).toNat = k + 1 := by omega
    have i5 : k ≤ 1000 := by omega
    clear hl h1
    go_enter Tryd.func56, Tryd.ntmps56
    go_wp2_with fail
    refine HX.out.mono ?_
    rintro e w1 ⟨rfl, rfl⟩
    go_wp2_with fail
    go_quiet (fail)
    go_wp2_with fail
    go_ret3
    exact ⟨rfl, bdn (Below.refl _ _) _⟩
theorem cut_any (s : ByteArray) (hsz : s.size ≤ 1000) (w : World) : Calls Tryd.prog 45 #[.string s, .string ⟨#[46]⟩] w fun e w' => e = .returned (cutV (sb s)) ∧ Below w.heap.size w w' := by
  have HX : Hid (Calls Tryd.prog 56 #[.string s, .string ⟨#[46]⟩] w fun e w' => e = .returned (cutV (sb s)) ∧ Below w.heap.size w w') := scut_any s hsz w
  unfold cutV at HX ⊢
  generalize (Sc.cutF (sb s)).1 = x at *
  generalize (Sc.cutF (sb s)).2.1 = y at *
  generalize (Sc.cutF (sb s)).2.2 = z at *
  go_enter Tryd.func45, Tryd.ntmps45
  go_wp2_with fail
  refine HX.out.mono ?_
  rintro e w1 ⟨rfl, hb⟩
  go_wp2_with fail
  go_ret3
  exact ⟨rfl, hb⟩
/-- how far the digits have been gone through -/
def DigsI (l : List Nat) (k n : Nat) (fits : Bool) : Prop := Sc.digsF 0 l = (fits && Sc.digsF n (l.drop k)) ∧ n ≤ Sc.top
theorem DigsI.step {l : List Nat} {k n : Nat} (h : DigsI l k n true) (hk : k < l.length) (hc : Sc.cls (l.getD k 0) = 6) :
    DigsI l (k + 1) (if Sc.over n 10 (Sc.value (l.getD k 0)) = true then 0 else n * 10 + Sc.value (l.getD k 0)) (!Sc.over n 10 (Sc.value (l.getD k 0))) := by
  obtain ⟨h1, h2⟩ := h
  rw [Sc.drop_getD hk, Sc.digsF, if_neg (fun h => h hc), Bool.true_and] at h1
  cases ho : Sc.over n 10 (Sc.value (l.getD k 0)) with
  | true => rw [ho] at h1; exact ⟨h1, by unfold Sc.top; simp⟩
  | false =>
    rw [ho] at h1
    refine ⟨h1, ?_⟩
    have hv := Sc.value_le (l.getD k 0)
    exact over_fits (by unfold Sc.top; omega) ho
theorem DigsI.not {l : List Nat} {k n : Nat} (h : DigsI l k n true) (hk : k < l.length) (hc : Sc.cls (l.getD k 0) ≠ 6) : Sc.digsF 0 l = false := by
  obtain ⟨h1, _⟩ := h
  rw [Sc.drop_getD hk, Sc.digsF, if_pos hc] at h1
  exact h1
theorem DigsI.done {l : List Nat} {k n : Nat} (h : DigsI l k n true) (hk : ¬ k < l.length) : Sc.digsF 0 l = true := by
  obtain ⟨h1, _⟩ := h
  rw [List.drop_eq_nil_of_le (by omega)] at h1
  exact h1
theorem DigsI.over {l : List Nat} {k n : Nat} (h : DigsI l k n false) : Sc.digsF 0 l = false := h.1
theorem Sc.decimalF_eq (L : List Nat) (h1 : L ≠ []) (h2 : ¬ (L.headD 0 = 48 ∧ L ≠ [48])) : Sc.decimalF L = Sc.digsF 0 L := by
  unfold Sc.decimalF
  have : L.isEmpty = false := by simpa using h1
  rw [this, show (decide (L.headD 0 = 48) && decide (L ≠ [48])) = false from by rw [← Bool.decide_and]; exact decide_eq_false h2]
  simp
set_option maxRecDepth 100000 in
set_option maxHeartbeats 1000000 in
theorem decimal_any (s : ByteArray) (hsz : s.size ≤ 1000) {w : World} (ht : Tabs w) : Calls Tryd.prog 46 #[.string s] w fun e w' => e = .returned (.bool (Sc.decimalF (sb s))) ∧ w' = w := by
  have HT : Hid (Tabs w) := ht
  have hl := sb_length s
  clear ht
  by_cases h0 : s.size = 0
  · have e0 : sb s = [] := List.eq_nil_of_length_eq_zero (by omega)
    rw [e0]
    obtain rfl : s = ⟨#[]⟩ := by rw [← mkS_sb s, e0]; rfl
    clear e0 hl h0
    go_enter Tryd.func46, Tryd.ntmps46
    go_wp2
    go_ret
    exact ⟨rfl, rfl⟩
  · have q0 := str_some h0
    have hp : 0 < s.size := by omega
    have hnb : sb s ≠ [] := fun e => by rw [e] at hl; simp at hl; omega
    have hhd : (sb s).headD 0 = s[0].toNat := by
      rw [← sb_get s 0 hp]
      cases sb s <;> rfl
    have i0 : (0 : Int) < (s.size : Int) := by omega
    have hiff : s = ⟨#[48]⟩ ↔ sb s = [48] := by
      constructor
      · rintro rfl; decide
      · intro e; rw [← mkS_sb s, e]; rfl
    by_cases hz : s[0].toNat = 48 ∧ ¬ s = ⟨#[48]⟩
    · have e0 : Sc.decimalF (sb s) = false := by
        unfold Sc.decimalF
        rw [hhd, decide_eq_true hz.1, decide_eq_true (show sb s ≠ [48] from fun e => hz.2 (hiff.2 e))]
        simp
      rw [e0]
      have q1 : ((s[0].toNat : Int) == 48) = true := by rw [hz.1]; rfl
      have q2 := str_ne hz.2
      rw [show (⟨#[48]⟩ : ByteArray).toList = [48] from by rw [ByteArray.toList_eq]] at q2
      clear e0 hz hiff hhd hnb hl
      go_enter Tryd.func46, Tryd.ntmps46
      go_wp2_with fail
      go_ret
      exact ⟨rfl, rfl⟩
    · have hle := Sc.decimalF_eq (sb s) hnb (by rw [hhd]; exact fun e => hz ⟨e.1, fun e2 => e.2 (hiff.1 e2)⟩)
      have HLe : Hid (Sc.decimalF (sb s) = Sc.digsF 0 (sb s)) := hle
      have HL : Hid ((sb s).length = s.size) := hl
      clear hle hl hhd hnb hiff
      by_cases h48 : s[0].toNat = 48
      · have hs0 : s = ⟨#[48]⟩ := Classical.byContradiction fun e => hz ⟨h48, e⟩
        have q1 : ((s[0].toNat : Int) == 48) = true := by rw [h48]; rfl
        have q2 := str_eq hs0
        rw [show (⟨#[48]⟩ : ByteArray).toList = [48] from by rw [ByteArray.toList_eq]] at q2
        clear hs0 h48 hz
        go_enter Tryd.func46, Tryd.ntmps46
        go_wp2_with fail
        go_loopw [3, 4, 5] (fun n f i wr => ∃ (k m : Nat) (fb : Bool), k ≤ s.size ∧ i = .int .i64 (k : Int) ∧ n = .int .u64 (m : Int) ∧ f = .bool fb ∧ DigsI (sb s) k m fb ∧ wr = w) (fun _ _ i _ => s.size - (intOf i).toNat)
        case atStart => exact ⟨0, 0, true, by omega, rfl, rfl, rfl, ⟨by rw [List.drop_zero]; rfl, by unfold Sc.top; omega⟩, rfl⟩
        case round =>
          obtain ⟨k, m, fb, hk, rfl, rfl, rfl, hD, hwr⟩ := hrel
          subst hwr
          cases fb with
          | false =>
            have HN : Hid (Sc.decimalF (sb s) = false) := by
              show _ = _
              rw [HLe.out]
              exact hD.over
            by_cases hlt : k < s.size
            · have q : decide ((k : Int) < (s.size : Int)) = true := decide_eq_true (by omega)
              go_wp2_with fail
              go_ret
              rw [HN.out]
              exact ⟨rfl, rfl⟩
            · have q : decide ((k : Int) < (s.size : Int)) = false := decide_eq_false (by omega)
              go_wp2_with fail
              go_ret
              rw [HN.out]
              exact ⟨rfl, rfl⟩
          | true =>
            by_cases hlt : k < s.size
            · have q : decide ((k : Int) < (s.size : Int)) = true := decide_eq_true (by omega)
              have hzk : s[k].toNat < 256 := s[k].toNat_lt
              have hgt := sb_get s k hlt
              have hlk : k < (sb s).length := by rw [HL.out]; exact hlt
              have HCl : Hid (Calls Tryd.prog 30 #[.int .u8 (s[k].toNat : Int)] wr fun e w' => e = .returned (.int .u8 (Sc.cls s[k].toNat : Nat)) ∧ w' = wr) := class_any hzk HT.out
              have HV : Hid (Calls Tryd.prog 48 #[.int .u8 (s[k].toNat : Int)] wr fun e w' => e = .returned (.int .u64 (Sc.value s[k].toNat : Nat)) ∧ w' = wr) := value_any hzk wr
              have hvl := Sc.value_le s[k].toNat
              have HM : Hid (Calls Tryd.prog 49 #[.int .u64 (m : Int), .int .u64 10, .int .u64 (Sc.value s[k].toNat : Nat)] wr fun e w' => e = .returned (moreV m 10 (Sc.value s[k].toNat)) ∧ w' = wr) := more_any (t := 10) hD.2 (by omega) (by unfold Sc.top; omega) (by unfold Sc.top; omega) wr
              have i1 : (k : Int) < (s.size : Int) := by omega
              by_cases h6 : Sc.cls s[k].toNat = 6
              · have hst := hD.step hlk (by rw [hgt]; exact h6)
                rw [hgt] at hst
                rw [h6] at HCl
                clear hgt hlk h6
                go_wp2_with fail
                refine HCl.out.mono ?_
                rintro e w1 ⟨rfl, rfl⟩
                go_wp2_with fail
                refine HV.out.mono ?_
                rintro e w1 ⟨rfl, rfl⟩
                go_wp2_with fail
                refine HM.out.mono ?_
                rintro e w1 ⟨rfl, rfl⟩
                unfold moreV
                clear HCl HV HM
                generalize Sc.value s[k].toNat = d at *
                cases ho : Sc.over m 10 d with
                | true =>
                  rw [ho] at hst
                  rw [if_pos rfl]
                  have hst' : DigsI (sb s) (k + 1) 0 false := hst
                  clear hst ho
                  go_wp2_with fail
                  exact ⟨⟨k + 1, 0, false, by omega, by go_num, rfl, rfl, hst', trivial⟩, by simp [intOf]; omega⟩
                | false =>
                  rw [ho] at hst
                  rw [if_neg (by decide)]
                  have hst' : DigsI (sb s) (k + 1) (m * 10 + d) true := hst
                  clear hst ho
                  go_wp2_with fail
                  exact ⟨⟨k + 1, m * 10 + d, true, by omega, by go_num, by go_num, rfl, hst', trivial⟩, by simp [intOf]; omega⟩
              · have HN : Hid (Sc.decimalF (sb s) = false) := by
                  show _ = _
                  rw [HLe.out]
                  exact hD.not hlk (by rw [hgt]; exact h6)
                have q6 : ((Sc.cls s[k].toNat : Int) != 6) = true := by rw [bne_iff_ne]; omega
                clear hgt hlk HV HM h6
                generalize Sc.cls s[k].toNat = c at *
                go_wp2_with fail
                refine HCl.out.mono ?_
                rintro e w1 ⟨rfl, rfl⟩
                go_wp2_with fail
                go_ret
                rw [HN.out]
                exact ⟨rfl, rfl⟩
            · have q : decide ((k : Int) < (s.size : Int)) = false := decide_eq_false (by omega)
              have HN : Hid (Sc.decimalF (sb s) = true) := by
                show _ = _
                rw [HLe.out]
                exact hD.done (by rw [HL.out]; exact hlt)
              go_wp2_with fail
              go_ret
              rw [HN.out]
              exact ⟨rfl, rfl⟩
      · have q1 : ((s[0].toNat : Int) == 48) = false := beq_eq_false_iff_ne.2 (by omega)
        clear hz h48
        go_enter Tryd.func46, Tryd.ntmps46
        go_wp2_with fail
        go_loopw [3, 4, 5] (fun n f i wr => ∃ (k m : Nat) (fb : Bool), k ≤ s.size ∧ i = .int .i64 (k : Int) ∧ n = .int .u64 (m : Int) ∧ f = .bool fb ∧ DigsI (sb s) k m fb ∧ wr = w) (fun _ _ i _ => s.size - (intOf i).toNat)
        case atStart => exact ⟨0, 0, true, by omega, rfl, rfl, rfl, ⟨by rw [List.drop_zero]; rfl, by unfold Sc.top; omega⟩, rfl⟩
        case round =>
          obtain ⟨k, m, fb, hk, rfl, rfl, rfl, hD, hwr⟩ := hrel
          subst hwr
          cases fb with
          | false =>
            have HN : Hid (Sc.decimalF (sb s) = false) := by
              show _ = _
              rw [HLe.out]
              exact hD.over
            by_cases hlt : k < s.size
            · have q : decide ((k : Int) < (s.size : Int)) = true := decide_eq_true (by omega)
              go_wp2_with fail
              go_ret
              rw [HN.out]
              exact ⟨rfl, rfl⟩
            · have q : decide ((k : Int) < (s.size : Int)) = false := decide_eq_false (by omega)
              go_wp2_with fail
              go_ret
              rw [HN.out]
              exact ⟨rfl, rfl⟩
          | true =>
            by_cases hlt : k < s.size
            · have q : decide ((k : Int) < (s.size : Int)) = true := decide_eq_true (by omega)
              have hzk : s[k].toNat < 256 := s[k].toNat_lt
              have hgt := sb_get s k hlt
              have hlk : k < (sb s).length := by rw [HL.out]; exact hlt
              have HCl : Hid (Calls Tryd.prog 30 #[.int .u8 (s[k].toNat : Int)] wr fun e w' => e = .returned (.int .u8 (Sc.cls s[k].toNat : Nat)) ∧ w' = wr) := class_any hzk HT.out
              have HV : Hid (Calls Tryd.prog 48 #[.int .u8 (s[k].toNat : Int)] wr fun e w' => e = .returned (.int .u64 (Sc.value s[k].toNat : Nat)) ∧ w' = wr) := value_any hzk wr
              have hvl := Sc.value_le s[k].toNat
              have HM : Hid (Calls Tryd.prog 49 #[.int .u64 (m : Int), .int .u64 10, .int .u64 (Sc.value s[k].toNat : Nat)] wr fun e w' => e = .returned (moreV m 10 (Sc.value s[k].toNat)) ∧ w' = wr) := more_any (t := 10) hD.2 (by omega) (by unfold Sc.top; omega) (by unfold Sc.top; omega) wr
              have i1 : (k : Int) < (s.size : Int) := by omega
              by_cases h6 : Sc.cls s[k].toNat = 6
              · have hst := hD.step hlk (by rw [hgt]; exact h6)
                rw [hgt] at hst
                rw [h6] at HCl
                clear hgt hlk h6
                go_wp2_with fail
                refine HCl.out.mono ?_
                rintro e w1 ⟨rfl, rfl⟩
                go_wp2_with fail
                refine HV.out.mono ?_
                rintro e w1 ⟨rfl, rfl⟩
                go_wp2_with fail
                refine HM.out.mono ?_
                rintro e w1 ⟨rfl, rfl⟩
                unfold moreV
                clear HCl HV HM
                generalize Sc.value s[k].toNat = d at *
                cases ho : Sc.over m 10 d with
                | true =>
                  rw [ho] at hst
                  rw [if_pos rfl]
                  have hst' : DigsI (sb s) (k + 1) 0 false := hst
                  clear hst ho
                  go_wp2_with fail
                  exact ⟨⟨k + 1, 0, false, by omega, by go_num, rfl, rfl, hst', trivial⟩, by simp [intOf]; omega⟩
                | false =>
                  rw [ho] at hst
                  rw [if_neg (by decide)]
                  have hst' : DigsI (sb s) (k + 1) (m * 10 + d) true := hst
                  clear hst ho
                  go_wp2_with fail
                  exact ⟨⟨k + 1, m * 10 + d, true, by omega, by go_num, by go_num, rfl, hst', trivial⟩, by simp [intOf]; omega⟩
              · have HN : Hid (Sc.decimalF (sb s) = false) := by
                  show _ = _
                  rw [HLe.out]
                  exact hD.not hlk (by rw [hgt]; exact h6)
                have q6 : ((Sc.cls s[k].toNat : Int) != 6) = true := by rw [bne_iff_ne]; omega
                clear hgt hlk HV HM h6
                generalize Sc.cls s[k].toNat = c at *
                go_wp2_with fail
                refine HCl.out.mono ?_
                rintro e w1 ⟨rfl, rfl⟩
                go_wp2_with fail
                go_ret
                rw [HN.out]
                exact ⟨rfl, rfl⟩
            · have q : decide ((k : Int) < (s.size : Int)) = false := decide_eq_false (by omega)
              have HN : Hid (Sc.decimalF (sb s) = true) := by
                show _ = _
                rw [HLe.out]
                exact hD.done (by rw [HL.out]; exact hlt)
              go_wp2_with fail
              go_ret
              rw [HN.out]
              exact ⟨rfl, rfl⟩
theorem Sc.idxF_false (f : Nat) (l : List Nat) : Sc.idxF f false l = true := by cases f <;> rfl
/-- how far a name's numbers have been gone through -/
def IdxI (l : List Nat) (rest : List Nat) (pt : Bool) : Prop := ∃ f, rest.length < f ∧ Sc.idxF (l.length + 1) (Sc.cutF l).2.2 (Sc.cutF l).2.1 = Sc.idxF f pt rest
theorem IdxI.yes {l rest : List Nat} (h : IdxI l rest true) (hd : Sc.decimalF (Sc.cutF rest).1 = true) : IdxI l (Sc.cutF rest).2.1 (Sc.cutF rest).2.2 := by
  obtain ⟨f, h1, h2⟩ := h
  obtain ⟨f', rfl⟩ : ∃ f', f = f' + 1 := ⟨f - 1, by omega⟩
  rw [Sc.idxF, hd, Bool.true_and] at h2
  cases hp : (Sc.cutF rest).2.2 with
  | true =>
    have := Sc.cutF_less rest hp
    rw [hp] at h2
    exact ⟨f', by omega, h2⟩
  | false =>
    rw [hp, Sc.idxF_false] at h2
    exact ⟨(Sc.cutF rest).2.1.length + 1, by omega, by rw [h2, Sc.idxF_false]⟩
theorem IdxI.no {l rest : List Nat} (h : IdxI l rest true) (hd : Sc.decimalF (Sc.cutF rest).1 = false) : Sc.idxF (l.length + 1) (Sc.cutF l).2.2 (Sc.cutF l).2.1 = false := by
  obtain ⟨f, h1, h2⟩ := h
  obtain ⟨f', rfl⟩ : ∃ f', f = f' + 1 := ⟨f - 1, by omega⟩
  rw [h2, Sc.idxF, hd]
  rfl
theorem IdxI.done {l rest : List Nat} (h : IdxI l rest false) : Sc.idxF (l.length + 1) (Sc.cutF l).2.2 (Sc.cutF l).2.1 = true := by
  obtain ⟨f, _, h2⟩ := h
  rw [h2, Sc.idxF_false]
theorem Sc.cutF_small {l : List Nat} (h : ∀ z ∈ l, z < 256) : (∀ z ∈ (Sc.cutF l).1, z < 256) ∧ ∀ z ∈ (Sc.cutF l).2.1, z < 256 := by
  cases hp : (Sc.cutF l).2.2 with
  | true =>
    obtain ⟨_, _, h3, h4, _⟩ := Sc.cutF_yes l hp
    rw [h4]
    refine ⟨fun z hz => ?_, fun z hz => h z (List.mem_of_mem_drop hz)⟩
    rw [h3] at hz
    exact h z (List.mem_of_mem_take hz)
  | false =>
    obtain ⟨h3, h4, _⟩ := Sc.cutF_no l hp
    rw [h3, h4]
    exact ⟨h, fun z hz => by cases hz⟩
theorem Sc.cutF_len1 (l : List Nat) : (Sc.cutF l).1.length ≤ l.length := by
  cases hp : (Sc.cutF l).2.2 with
  | true => have := (Sc.cutF_yes l hp).1; omega
  | false => rw [(Sc.cutF_no l hp).1]; exact Nat.le_refl _
/-- the measure of Named's loop -/
def idxM (rest pt : Value) : Nat := match pt, rest with | .bool true, .string s => s.size + 1 | _, _ => 0
set_option maxRecDepth 100000 in
set_option maxHeartbeats 1000000 in
theorem named_any (s : ByteArray) {w : World} (ht : Tabs w) : Calls Tryd.prog 29 #[.string s] w fun e w' => e = .returned (.bool (Sc.namedF (sb s))) ∧ Below w.heap.size w w' := by
  have HT : Hid (Tabs w) := ht
  have hl := sb_length s
  clear ht
  by_cases h64 : 64 < s.size
  · have e0 : Sc.namedF (sb s) = false := by unfold Sc.namedF; rw [hl, decide_eq_false (by omega)]; rfl
    rw [e0]
    clear e0 hl
    go_enter Tryd.func29, Tryd.ntmps29
    go_wp2
    go_ret
    exact ⟨rfl, Below.refl _ _⟩
  · have hnf : Sc.namedF (sb s) = (Sc.legalF (Sc.cutF (sb s)).1 && Sc.idxF ((sb s).length + 1) (Sc.cutF (sb s)).2.2 (Sc.cutF (sb s)).2.1) := by
      unfold Sc.namedF; rw [hl, decide_eq_true (by omega)]; rfl
    have HCu : Hid (Calls Tryd.prog 45 #[.string s, .string ⟨#[46]⟩] w fun e w' => e = .returned (cutV (sb s)) ∧ Below w.heap.size w w') := cut_any s (by omega) w
    obtain ⟨m1, m2⟩ := Sc.cutF_small (sb_small s)
    have c1 := Sc.cutF_len1 (sb s)
    have c2 := Sc.cutF_len (sb s)
    have hI0 : IdxI (sb s) (Sc.cutF (sb s)).2.1 (Sc.cutF (sb s)).2.2 := ⟨(sb s).length + 1, by omega, rfl⟩
    unfold cutV at HCu
    have HLg : Hid (∀ W, Below w.heap.size w W → Calls Tryd.prog 28 #[.string (mkS (Sc.cutF (sb s)).1)] W fun e w' => e = .returned (.bool (Sc.legalF (Sc.cutF (sb s)).1)) ∧ w' = W) := fun W hW => by
      have := legal_any (mkS (Sc.cutF (sb s)).1) (HT.out.below hW)
      rw [sb_mkS m1] at this
      exact this
    have HN : Hid (Sc.namedF (sb s) = (Sc.legalF (Sc.cutF (sb s)).1 && Sc.idxF ((sb s).length + 1) (Sc.cutF (sb s)).2.2 (Sc.cutF (sb s)).2.1)) := hnf
    have HI0 : Hid (IdxI (sb s) (Sc.cutF (sb s)).2.1 (Sc.cutF (sb s)).2.2) := hI0
    clear hI0 hnf m1
    rw [hl] at c2
    obtain ⟨r0, hr0⟩ : ∃ r, r = (Sc.cutF (sb s)).2.1 := ⟨_, rfl⟩
    obtain ⟨p0, hp0⟩ : ∃ r, r = (Sc.cutF (sb s)).2.2 := ⟨_, rfl⟩
    obtain ⟨x0, hx0⟩ : ∃ r, r = (Sc.cutF (sb s)).1 := ⟨_, rfl⟩
    obtain ⟨I, hI⟩ : ∃ r, r = Sc.idxF ((sb s).length + 1) (Sc.cutF (sb s)).2.2 (Sc.cutF (sb s)).2.1 := ⟨_, rfl⟩
    have HIe : Hid (I = Sc.idxF ((sb s).length + 1) (Sc.cutF (sb s)).2.2 (Sc.cutF (sb s)).2.1) := hI
    rw [← hI] at HN
    rw [← hr0, ← hp0] at HI0
    rw [← hr0, ← hp0, ← hx0] at HCu
    rw [← hx0] at HLg HN
    rw [← hr0] at c2 m2
    clear hr0 hp0 hx0 hI
    go_enter Tryd.func29, Tryd.ntmps29
    go_wp2_with fail
    refine HCu.out.mono ?_
    rintro e w1 ⟨rfl, hb1⟩
    have HB1 : Hid (Below w.heap.size w w1) := hb1
    clear hb1 HCu
    go_wp2_with fail
    refine (HLg.out _ HB1.out).mono ?_
    rintro e w2 ⟨rfl, rfl⟩
    clear HLg
    cases hlg : Sc.legalF x0 with
    | false =>
      rw [hlg] at HN
      go_wp2_with fail
      go_ret
      rw [HN.out]
      exact ⟨rfl, HB1.out⟩
    | true =>
      rw [hlg] at HN
      clear hlg
      go_wp2_with fail
      go_loopw [4, 5, 6] (fun rest pt _ wr => ∃ r b, rest = .string (mkS r) ∧ pt = .bool b ∧ r.length ≤ 64 ∧ Hid (∀ z ∈ r, z < 256) ∧ IdxI (sb s) r b ∧ Hid (Below w.heap.size w wr)) (fun rest pt _ _ => idxM rest pt)
      case atStart => exact ⟨r0, p0, rfl, rfl, by omega, m2, HI0.out, HB1⟩
      case round =>
        obtain ⟨r, b, rfl, rfl, hrl, HRs, hI, HB⟩ := hrel
        clear HI0 m2
        cases b with
        | false =>
          have HR : Hid (Sc.namedF (sb s) = true) := by
            show _ = _
            rw [HN.out, HIe.out, hI.done]
            rfl
          go_wp2_with fail
          go_ret
          rw [HR.out]
          exact ⟨rfl, HB.out⟩
        | true =>
          have hsz := mkS_size r
          have hsb := sb_mkS HRs.out
          obtain ⟨n1, n2⟩ := Sc.cutF_small HRs.out
          have d1 := Sc.cutF_len1 r
          have d2 := Sc.cutF_len r
          have HCu : Hid (Calls Tryd.prog 45 #[.string (mkS r), .string ⟨#[46]⟩] wr fun e w' => e = .returned (cutV r) ∧ Below wr.heap.size wr w') := by
            have := cut_any (mkS r) (by omega) wr
            rw [hsb] at this
            exact this
          have HDe : Hid (∀ W, Below w.heap.size w W → Calls Tryd.prog 46 #[.string (mkS (Sc.cutF r).1)] W fun e w' => e = .returned (.bool (Sc.decimalF (Sc.cutF r).1)) ∧ w' = W) := fun W hW => by
            have := decimal_any (mkS (Sc.cutF r).1) (by rw [mkS_size]; omega) (HT.out.below hW)
            rw [sb_mkS n1] at this
            exact this
          have F1 := fun hd => hI.yes hd
          have F2 := fun hd => hI.no hd
          have F3 := Sc.cutF_less r
          unfold cutV at HCu
          have HRl : Hid (idxM (.string (mkS r)) (.bool true) = r.length + 1) := by show _ = _; rw [idxM, hsz]
          clear hsb hsz HRs n1
          generalize (Sc.cutF r).1 = x at *
          generalize (Sc.cutF r).2.1 = y at *
          generalize (Sc.cutF r).2.2 = q at *
          have HF1 : Hid (Sc.decimalF x = true → IdxI (sb s) y q) := F1
          have HF2 : Hid (Sc.decimalF x = false → Sc.idxF ((sb s).length + 1) (Sc.cutF (sb s)).2.2 (Sc.cutF (sb s)).2.1 = false) := F2
          have HF3 : Hid (q = true → y.length < r.length) := F3
          have HN2 : Hid (∀ z ∈ y, z < 256) := n2
          clear F1 F2 F3 n2
          go_wp2_with fail
          refine HCu.out.mono ?_
          rintro e w3 ⟨rfl, hb3⟩
          have HB3 : Hid (Below w.heap.size w w3) := HB.out.trans (hb3.mono HB.out.size)
          clear hb3 HCu
          go_wp2_with fail
          refine (HDe.out _ HB3.out).mono ?_
          rintro e w4 ⟨rfl, rfl⟩
          cases hd : Sc.decimalF x with
          | true =>
            have hJ := HF1.out hd
            clear hd
            go_wp2_with fail
            refine ⟨⟨y, q, rfl, rfl, by omega, HN2, hJ, HB3⟩, ?_⟩
            rw [HRl.out]
            cases q with
            | true => have := HF3.out rfl; rw [idxM, mkS_size]; omega
            | false => simp [idxM]
          | false =>
            have HR : Hid (Sc.namedF (sb s) = false) := by
              show _ = _
              rw [HN.out, HIe.out, HF2.out hd]
              rfl
            clear hd
            go_wp2_with fail
            go_ret
            rw [HR.out]
            exact ⟨rfl, HB3.out⟩
end Go.Proofs.YtlhecgokedckdaaDoor
