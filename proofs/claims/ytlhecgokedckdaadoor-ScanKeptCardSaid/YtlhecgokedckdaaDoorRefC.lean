/- The document's own answer to chapter 5: sign. -/
import Derived.Test.YtlhecgokedckdaaDoorRefB
import Derived.Test.YtlhecgokedckdaaDoorScSign
import Derived.Test.YtlhecgokedckdaaDoorScNamed
namespace Go.Proofs.YtlhecgokedckdaaDoor
open Go.RowKit Sc
/-- has a sign among the first k this first byte? -/
def begunF (z k : Nat) : Bool := (signs.take k).any fun s => s.headD 0 == z
theorem begunF_next (z k : Nat) (hk : k < 26) : begunF z (k + 1) = (begunF z k || (signs.getD k []).headD 0 == z) := by
  unfold begunF
  rw [List.take_succ_eq_append_getElem (show k < signs.length from hk), List.any_append, List.getD_eq_getElem?_getD, List.getElem?_eq_getElem (show k < signs.length from hk)]
  simp
theorem begunF_cls {z : Nat} (hz : z < 256) : begunF z 26 = decide (cls z = 4) := by
  have h : ∀ t : Fin 256, begunF t.val 26 = decide (cls t.val = 4) := by decide +kernel
  exact h ⟨z, hz⟩
/-- what the document's sign answers -/
def rsignV (a : Nat) (l : List Nat) : Value := match signF l with
  | .ok k n => .tuple #[.int .i64 (k : Int), .int .i64 ((a + n : Nat) : Int), .int .i64 (-1)]
  | .bad _ => if cls (l.headD 0) = 4 then .tuple #[.int .i64 0, .int .i64 0, .int .i64 ((a + 1 : Nat) : Int)] else .tuple #[.int .i64 0, .int .i64 0, .int .i64 (a : Int)]
/-- best, as the document's sign holds it -/
def BestIs (best : Int) (r0 rs : Nat) : Prop := (best = -1 ∧ r0 = 0 ∧ rs = 0) ∨ ∃ b : Nat, b < 26 ∧ best = (b : Int) ∧ r0 = 4 + b ∧ rs = (signs.getD b []).length
theorem mkS_head {r : List Nat} (hr : ∀ z ∈ r, z < 256) (h0 : 0 < (mkS r).size) : (mkS r)[0].toNat = r.headD 0 := by
  rw [← sb_get _ 0 h0, sb_mkS hr]
  cases r <;> rfl
theorem SignIs.head {k : Nat} {m : ByteArray} (hk : k < 26) (h : SignIs k m) (h0 : 0 < m.size) : m[0].toNat = (signs.getD k []).headD 0 := by
  have e : m = _ := h
  subst e
  exact mkS_head (signs_at k hk).1 h0
set_option maxRecDepth 100000 in
set_option maxHeartbeats 1000000 in
theorem rsign_any {w : World} (ht : RTabs w) (s : ByteArray) {a : Nat} (ha : a < s.size) (hs : s.size ≤ 1048576) :
    Calls Tryd.prog 42 #[.string s, .int .i64 (a : Int)] w fun e w' => e = .returned (rsignV a ((sb s).drop a)) ∧ Below w.heap.size w w' := by
  have HT : Hid (RTabs w) := ht
  clear ht
  go_enter Tryd.func42, Tryd.ntmps42
  go_wp2_with fail
  go_loopw [7, 8, 9] (fun best begun i wr => ∃ (k r0 rs : Nat) (bt : Int), k ≤ 26 ∧ i = .int .i64 k ∧ best = .int .i64 bt ∧ BestIs bt r0 rs ∧ begun = .bool (begunF s[a].toNat k) ∧ SignAt ((sb s).drop a) k r0 rs ∧ Hid (Below w.heap.size w wr)) (fun _ _ i _ => 26 - (intOf i).toNat)
  case atStart => exact ⟨0, 0, 0, -1, by omega, rfl, rfl, .inl ⟨rfl, rfl, rfl⟩, rfl, rfl, Below.refl _ _⟩
  case round =>
    obtain ⟨k, r0, rs, bt, hk, rfl, rfl, HBest, rfl, HF, HB⟩ := hrel
    have HTr : Hid (RTabs wr) := HT.out.below HB.out
    by_cases hlt : k < 26
    · have hc := HTr.out.sig k hlt
      obtain ⟨s1, s2, s3⟩ := Sc.signs_at k hlt
      obtain ⟨m, hm⟩ : ∃ m, SignIs k m := ⟨_, rfl⟩
      rw [← show m = _ from hm] at hc
      have hsz := hm.size hlt
      have m1 : m.size ≤ 2 := by omega
      have m2 : 0 < m.size := by omega
      have hbn := begunF_next s[a].toNat k hlt
      rw [← hm.head hlt m2] at hbn
      clear s1 s2 s3 hsz
      have i0 : (0 : Int) < (m.size : Int) := by omega
      have ia : (a : Int) < (s.size : Int) := by omega
      by_cases hfit : a + m.size ≤ s.size
      · have ifit : (a : Int) + (m.size : Int) ≤ (s.size : Int) := by omega
        have hsb := sb_extract s a (a + m.size)
        rw [Nat.add_sub_cancel_left] at hsb
        by_cases heq : s.extract a (a + m.size) = m
        · have qe := str_eq heq
          rw [heq] at hsb
          rcases HBest with ⟨rfl, rfl, rfl⟩ | ⟨b, hb, rfl, rfl, rfl⟩
          · have HN := HF.hit hlt hm m2 hsb.symm
            have HBn : BestIs (k : Int) (4 + k) m.size := .inr ⟨k, hlt, rfl, rfl, hm.size hlt⟩
            clear hsb HF heq
            cases hbg : begunF s[a].toNat k with
            | true =>
              have hb1 : begunF s[a].toNat (k + 1) = true := by rw [hbn, hbg]; rfl
              go_wp2
              go_quiet (fail)
              go_wp2_with fail
              exact ⟨⟨k + 1, _, _, _, by omega, by go_num, rfl, HBn, by rw [hb1], HN, bdn HB.out _⟩, by simp [intOf]; omega⟩
            | false =>
              have hb1 : begunF s[a].toNat (k + 1) = ((m[0].toNat : Int) == (s[a].toNat : Int)) := by
                rw [hbn, hbg, Bool.false_or, Bool.eq_iff_iff]
                simp
                omega
              go_wp2
              go_quiet (fail)
              go_wp2_with fail
              exact ⟨⟨k + 1, _, _, _, by omega, by go_num, rfl, HBn, by rw [hb1], HN, bdn HB.out _⟩, by simp [intOf]; omega⟩
          · have hcb := HTr.out.sig b hb
            obtain ⟨mb, hmb⟩ : ∃ m, SignIs b m := ⟨_, rfl⟩
            rw [← show mb = _ from hmb] at hcb
            rw [← hmb.size hb] at HF
            by_cases hgt : mb.size < m.size
            · have igt : (mb.size : Int) < (m.size : Int) := by omega
              have HN := HF.hit hlt hm hgt hsb.symm
              have HBn : BestIs (k : Int) (4 + k) m.size := .inr ⟨k, hlt, rfl, rfl, hm.size hlt⟩
              clear hsb HF heq
              cases hbg : begunF s[a].toNat k with
              | true =>
                have hb1 : begunF s[a].toNat (k + 1) = true := by rw [hbn, hbg]; rfl
                go_wp2
                go_quiet (fail)
                go_wp2_with fail
                exact ⟨⟨k + 1, _, _, _, by omega, by go_num, rfl, HBn, by rw [hb1], HN, bdn HB.out _⟩, by simp [intOf]; omega⟩
              | false =>
                have hb1 : begunF s[a].toNat (k + 1) = ((m[0].toNat : Int) == (s[a].toNat : Int)) := by
                  rw [hbn, hbg, Bool.false_or, Bool.eq_iff_iff]
                  simp
                  omega
                go_wp2
                go_quiet (fail)
                go_wp2_with fail
                exact ⟨⟨k + 1, _, _, _, by omega, by go_num, rfl, HBn, by rw [hb1], HN, bdn HB.out _⟩, by simp [intOf]; omega⟩
            · have igt : ¬ (mb.size : Int) < (m.size : Int) := by omega
              have HN := HF.miss hlt hm (fun h => hgt h.1)
              have HBn : BestIs (b : Int) (4 + b) mb.size := .inr ⟨b, hb, rfl, rfl, hmb.size hb⟩
              clear hsb HF heq
              cases hbg : begunF s[a].toNat k with
              | true =>
                have hb1 : begunF s[a].toNat (k + 1) = true := by rw [hbn, hbg]; rfl
                go_wp2
                go_quiet (fail)
                go_wp2_with fail
                exact ⟨⟨k + 1, _, _, _, by omega, by go_num, rfl, HBn, by rw [hb1], HN, bdn HB.out _⟩, by simp [intOf]; omega⟩
              | false =>
                have hb1 : begunF s[a].toNat (k + 1) = ((m[0].toNat : Int) == (s[a].toNat : Int)) := by
                  rw [hbn, hbg, Bool.false_or, Bool.eq_iff_iff]
                  simp
                  omega
                go_wp2
                go_quiet (fail)
                go_wp2_with fail
                exact ⟨⟨k + 1, _, _, _, by omega, by go_num, rfl, HBn, by rw [hb1], HN, bdn HB.out _⟩, by simp [intOf]; omega⟩
        · have qe := str_ne heq
          have HN := HF.miss hlt hm (fun h => heq (by rw [← mkS_sb (s.extract a (a + m.size)), hsb, h.2, mkS_sb]))
          have HBn := HBest
          clear hsb HF heq
          cases hbg : begunF s[a].toNat k with
          | true =>
            have hb1 : begunF s[a].toNat (k + 1) = true := by rw [hbn, hbg]; rfl
            go_wp2
            go_quiet (fail)
            go_wp2_with fail
            exact ⟨⟨k + 1, _, _, _, by omega, by go_num, rfl, HBn, by rw [hb1], HN, bdn HB.out _⟩, by simp [intOf]; omega⟩
          | false =>
            have hb1 : begunF s[a].toNat (k + 1) = ((m[0].toNat : Int) == (s[a].toNat : Int)) := by
              rw [hbn, hbg, Bool.false_or, Bool.eq_iff_iff]
              simp
              omega
            go_wp2
            go_quiet (fail)
            go_wp2_with fail
            exact ⟨⟨k + 1, _, _, _, by omega, by go_num, rfl, HBn, by rw [hb1], HN, bdn HB.out _⟩, by simp [intOf]; omega⟩
      · have ifit : ¬ (a : Int) + (m.size : Int) ≤ (s.size : Int) := by omega
        have HN := HF.miss hlt hm (fun h => hfit (by
          have := congrArg List.length h.2
          rw [List.length_take, List.length_drop, sb_length, sb_length] at this
          omega))
        have HBn := HBest
        clear HF
        cases hbg : begunF s[a].toNat k with
        | true =>
          have hb1 : begunF s[a].toNat (k + 1) = true := by rw [hbn, hbg]; rfl
          go_wp2
          go_quiet (fail)
          go_wp2_with fail
          exact ⟨⟨k + 1, _, _, _, by omega, by go_num, rfl, HBn, by rw [hb1], HN, bdn HB.out _⟩, by simp [intOf]; omega⟩
        | false =>
          have hb1 : begunF s[a].toNat (k + 1) = ((m[0].toNat : Int) == (s[a].toNat : Int)) := by
            rw [hbn, hbg, Bool.false_or, Bool.eq_iff_iff]
            simp
            omega
          go_wp2
          go_quiet (fail)
          go_wp2_with fail
          exact ⟨⟨k + 1, _, _, _, by omega, by go_num, rfl, HBn, by rw [hb1], HN, bdn HB.out _⟩, by simp [intOf]; omega⟩
    · obtain rfl : k = 26 := by omega
      have hE := HF.done
      have hhd : ((sb s).drop a).headD 0 = s[a].toNat := by rw [sb_cons s a ha]; rfl
      have hbc := begunF_cls (z := s[a].toNat) s[a].toNat_lt
      rcases HBest with ⟨rfl, rfl, rfl⟩ | ⟨b, hb, rfl, rfl, rfl⟩
      · rw [if_pos rfl] at hE
        cases hbg : begunF s[a].toNat 26 with
        | true =>
          have HV : Hid (rsignV a ((sb s).drop a) = .tuple #[.int .i64 0, .int .i64 0, .int .i64 ((a + 1 : Nat) : Int)]) := by
            show _ = _
            unfold rsignV
            rw [hE, hhd]
            simp only
            rw [if_pos (by rw [hbg] at hbc; simpa using hbc.symm)]
          clear hE hbc hhd HF
          go_wp2
          go_ret3
          rw [HV.out]
          exact ⟨rfl, HB.out⟩
        | false =>
          have HV : Hid (rsignV a ((sb s).drop a) = .tuple #[.int .i64 0, .int .i64 0, .int .i64 (a : Int)]) := by
            show _ = _
            unfold rsignV
            rw [hE, hhd]
            simp only
            rw [if_neg (by rw [hbg] at hbc; simpa using hbc.symm)]
          clear hE hbc hhd HF
          go_wp2
          go_ret3
          rw [HV.out]
          exact ⟨rfl, HB.out⟩
      · have hp := (Sc.signs_at b hb).2.1
        have hcb := HTr.out.sig b hb
        obtain ⟨mb, hmb⟩ : ∃ m, SignIs b m := ⟨_, rfl⟩
        rw [← show mb = _ from hmb] at hcb
        have hsz := hmb.size hb
        have hsz2 := (Sc.signs_at b hb).2.2
        rw [if_neg (by omega), ← hsz] at hE
        have HV : Hid (rsignV a ((sb s).drop a) = .tuple #[.int .i64 ((4 + b : Nat) : Int), .int .i64 ((a + mb.size : Nat) : Int), .int .i64 (-1)]) := by
          show _ = _
          unfold rsignV
          rw [hE]
        have m1 : mb.size ≤ 2 := by omega
        clear hE hbc hhd HF hsz hsz2 hp
        go_wp2
        go_quiet (fail)
        go_wp2
        go_ret3
        rw [HV.out]
        exact ⟨rfl, bdn HB.out _⟩
theorem signFrom_none {l : List Nat} (hl : cls (l.headD 0) ≠ 4) : ∀ (ss : List (List Nat)) (i : Nat) (r : Nat × Nat), (∀ s ∈ ss, s ≠ [] ∧ cls (s.headD 0) = 4) → signFrom l ss i r = r
  | [], _, _, _ => rfl
  | s :: ss, i, r, h => by
    have hs := h s (by simp)
    rw [signFrom, if_neg, signFrom_none hl ss _ _ (fun x hx => h x (by simp [hx]))]
    rintro ⟨_, e⟩
    cases s with
    | nil => exact hs.1 rfl
    | cons b t =>
      cases l with
      | nil => simp at e
      | cons z l =>
        simp at e
        apply hl
        show cls z = 4
        rw [e.1]
        exact hs.2
theorem signF_none {l : List Nat} (hl : cls (l.headD 0) ≠ 4) : signF l = .bad 1 := by
  have h := signFrom_none hl signs 0 (0, 0) (by decide)
  unfold signF
  rw [h]
  rfl
end Go.Proofs.YtlhecgokedckdaaDoor
