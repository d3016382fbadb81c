/- The document's own Reader: Number, Bytes, back, Text, End. Own work. -/
import Derived.Test.YtceljnkbkpgdjaaDoorRdRef
namespace Go.Proofs.YtceljnkbkpgdjaaDoor
open Go.RowKit
set_option linter.unusedVariables false
theorem acc_take (zs : List Nat) (n : Nat) : ∀ (m k : Nat), k + m ≤ n → Pl.acc (zs.take n) k m = Pl.acc zs k m
  | 0, k, _ => rfl
  | m + 1, k, h => by
    show (zs.take n).getD k 0 + 256 * Pl.acc (zs.take n) (k + 1) m = zs.getD k 0 + 256 * Pl.acc zs (k + 1) m
    rw [acc_take zs n m (k + 1) (by omega), List.getD_eq_getElem?_getD, List.getD_eq_getElem?_getD, List.getElem?_take, if_pos (by omega)]
theorem num_take (zs : List Nat) (m : Nat) : Pl.num m (zs.take m) = Pl.num m zs := acc_take zs m m 0 (by omega)
/-- a number that is taken: the answer, the place, the refusal -/
def numA (b : Nat) (zs : List Nat) (pos : Nat) (why : Int) : Nat × Nat × Int := if why ≠ 0 then (0, pos, why) else if pos + b ≤ zs.length then (Pl.num b (zs.drop pos), pos + b, 0) else (0, pos, 10)
def bytesA (n : Int) (zs : List Nat) (pos : Nat) (why : Int) : List Nat × Nat × Int := if why ≠ 0 then ([], pos, why) else if n < 0 then ([], pos, 1) else if pos + n.toNat ≤ zs.length then ((zs.drop pos).take n.toNat, pos + n.toNat, 0) else ([], pos, 10)
/-- what a call on a reader of the document's leaves -/
def RrPost (w : World) (p : Nat) (v : Value) (zs : List Nat) (x : Nat × Int) (w' : World) : Prop := Rr w' p v zs x.1 x.2 ∧ Keeps (fun k => k = p) w w'
theorem RrPost.same {w w' : World} {p : Nat} {v : Value} {zs : List Nat} {pos : Nat} {why : Int} (h : Rr w p v zs pos why) (hb : Below w.heap.size w w') : RrPost w p v zs (pos, why) w' := ⟨h.below hb, Keeps.of_below hb⟩
theorem Keeps.one {p : Nat} {a b c : World} (h : Keeps (fun k => k = p) a b) (k : Keeps (fun k => k = p) b c) : Keeps (fun k => k = p) a c := h.trans k (fun _ _ e => e)
set_option maxRecDepth 100000 in
set_option maxHeartbeats 2000000 in
theorem rrNum_any {w : World} {p b : Nat} {v : Value} {zs : List Nat} {pos : Nat} {why : Int} (h : Rr w p v zs pos why) (hb0 : 0 < b) (hb : b ≤ 8) :
    Calls Tryd.prog 47 #[.pointer (some ⟨p, 0, none⟩), .int .i64 (b : Int)] w fun e w' => e = .returned (.int .u64 ((numA b zs pos why).1 : Int)) ∧ RrPost w p v zs (numA b zs pos why).2 w' := by
  have HR := Lib.hid h
  by_cases h0 : why = 0
  · subst h0
    by_cases hl : pos + b ≤ zs.length
    · rw [show numA b zs pos 0 = (Pl.num b (zs.drop pos), pos + b, 0) by simp [numA, hl]]
      have HT := Lib.hid (rtake_yes (n := b) h hl)
      clear h
      go_enter Tryd.func47, Tryd.ntmps47
      go_wp2_with fail
      refine HT.out.mono ?_
      rintro e w1 ⟨u, rfl, hs, hr, hk⟩
      obtain ⟨ua, uc, hu, _⟩ := id hs
      rw [show ((zs.drop pos).take b).length = b by rw [List.length_take, List.length_drop]; omega] at hu
      subst hu
      have hn := rNumber_yes hb hs (by rw [List.length_take, List.length_drop]; omega) hb0
      rw [num_take] at hn
      have HN := Lib.hid hn
      have HP : Hid (RrPost w p v zs (pos + b, 0) w1) := ⟨hr, hk⟩
      clear hn hr hk HT
      go_wp2_with fail
      refine HN.out.mono ?_
      rintro e w2 ⟨rfl, rfl⟩
      go_wp2_with fail
      go_ret
      exact ⟨rfl, HP.out⟩
    · rw [show numA b zs pos 0 = (0, pos, 10) by simp [numA, hl]]
      have HT := Lib.hid (rtake_no (n := b) h (by omega))
      clear h
      go_enter Tryd.func47, Tryd.ntmps47
      go_wp2_with fail
      refine HT.out.mono ?_
      rintro e w1 ⟨rfl, hr, hk⟩
      have HN := Lib.hid (rNumber_no (s := b) (w := w1) (v := .slice none 0 0) (zs := []) ⟨none, 0, rfl, Nat.le_refl _, Nat.zero_le _, by simp, by simp, fun i hi => absurd hi (by simp)⟩ hb0)
      have HP : Hid (RrPost w p v zs (pos, 10) w1) := ⟨hr, hk⟩
      clear hr hk HT
      go_wp2_with fail
      refine HN.out.mono ?_
      rintro e w2 ⟨rfl, rfl⟩
      go_wp2_with fail
      go_ret
      exact ⟨rfl, HP.out⟩
  · rw [show numA b zs pos why = (0, pos, why) by simp [numA, h0]]
    have HT := Lib.hid (rtake_not (n := (b : Int)) h h0)
    clear h
    go_enter Tryd.func47, Tryd.ntmps47
    go_wp2_with fail
    refine HT.out.mono ?_
    rintro e w1 ⟨rfl, hbl⟩
    have HN := Lib.hid (rNumber_no (s := b) (w := w1) (v := .slice none 0 0) (zs := []) ⟨none, 0, rfl, Nat.le_refl _, Nat.zero_le _, by simp, by simp, fun i hi => absurd hi (by simp)⟩ hb0)
    have HP : Hid (RrPost w p v zs (pos, why) w1) := RrPost.same HR.out hbl
    clear hbl HT
    go_wp2_with fail
    refine HN.out.mono ?_
    rintro e w2 ⟨rfl, rfl⟩
    go_wp2_with fail
    go_ret
    exact ⟨rfl, HP.out⟩
set_option maxRecDepth 100000 in
set_option maxHeartbeats 2000000 in
theorem rback_any {w : World} {p : Nat} {v : Value} {zs : List Nat} {pos at' : Nat} {why : Int} (h : Rr w p v zs pos why) (ha : at' ≤ zs.length) :
    Calls Tryd.prog 79 #[.pointer (some ⟨p, 0, none⟩), .int .i64 (at' : Int)] w fun e w' => e = .returned (.tuple #[]) ∧ RrPost w p v zs (if why = 0 then pos else at', why) w' := by
  have c1 := h.cell1
  have c2 := h.cell2
  have t1 := h.thawed 1
  have HR := Lib.hid h
  by_cases h0 : why = 0
  · subst h0
    rw [if_pos rfl]
    clear h
    go_enter Tryd.func79, Tryd.ntmps79
    go_wp2_with fail
    go_end0
    exact ⟨rfl, RrPost.same HR.out (Below.refl _ _)⟩
  · rw [if_neg h0]
    have hb : (why != 0) = true := by simpa using h0
    have HF : Hid (RrPost w p v zs (at', why) (w.setCell ⟨p, 1, none⟩ (.int .i64 (at' : Int)))) := ⟨h.moved at' ha, Keeps.setCell w p 1 _⟩
    clear h
    go_enter Tryd.func79, Tryd.ntmps79
    go_wp2_with fail
    go_end0
    exact ⟨rfl, HF.out⟩
set_option maxRecDepth 100000 in
set_option maxHeartbeats 2000000 in
theorem rrBytes_any {w : World} {p : Nat} {v : Value} {zs : List Nat} {pos : Nat} {n why : Int} (h : Rr w p v zs pos why) (hn : n ≤ 9223372036854775807) :
    Calls Tryd.prog 52 #[.pointer (some ⟨p, 0, none⟩), .int .i64 n] w fun e w' => ∃ u, e = .returned u ∧ Own w' w.heap.size u (bytesA n zs pos why).1 ∧ RrPost w p v zs (bytesA n zs pos why).2 w' := by
  have c2 := h.cell2
  have t2 := h.thawed 2
  have HR := Lib.hid h
  by_cases h0 : why = 0
  · subst h0
    by_cases h1 : n < 0
    · rw [show bytesA n zs pos 0 = ([], pos, 1) by simp [bytesA, h1]]
      have HF : Hid (RrPost w p v zs (pos, 1) (w.setCell ⟨p, 2, none⟩ (.int .i64 1))) := ⟨h.refuse 1, Keeps.setCell w p 2 _⟩
      clear h
      go_enter Tryd.func52, Tryd.ntmps52
      go_wp2_with fail
      go_ret
      exact ⟨_, rfl, own_nil _ _, HF.out⟩
    · obtain ⟨m, rfl⟩ := Int.eq_ofNat_of_zero_le (show 0 ≤ n by omega)
      by_cases hl : pos + m ≤ zs.length
      · rw [show bytesA (m : Int) zs pos 0 = ((zs.drop pos).take m, pos + m, 0) by simp [bytesA, hl]]
        have HT := Lib.hid (rtake_yes (n := m) h hl)
        have hz := h.2.2.2.2
        have HLn : Hid (((zs.drop pos).take m).length ≤ 549755813888) := by show _ ≤ _; rw [List.length_take, List.length_drop]; omega
        clear h h1
        go_enter Tryd.func52, Tryd.ntmps52
        go_wp2_with fail
        refine HT.out.mono ?_
        rintro e w1 ⟨u, rfl, hs, hr, hk⟩
        have HS := Lib.hid hs
        have HP : Hid (RrPost w p v zs (pos + m, 0) w1) := ⟨hr, hk⟩
        clear hs hr hk HT
        go_wp2_with (at_builtin; refine wpList_append_sl (v := .slice none 0 0) (base := w1.heap.size) (xs := []) (.const (.slice none 0 0)) (.tmp 24) (by rfl) rfl rfl (own_nil _ _) rfl HS.out (by have := HLn.out; simp only [List.length_nil]; omega) (Nat.le_refl _) ?_; intro v1 w2 ho hg hat; have HO : Hid (Own w2 w1.heap.size v1 ([] ++ (zs.drop pos).take m)) := ho; have HG : Hid (w1.grownBy w2 none) := hg; obtain ⟨ao, am, ac, hv1⟩ : ∃ a m c, v1 = .slice a m c := (by rcases ho.2 with ⟨e, h0⟩ | ⟨g, c, _, e, _⟩ <;> exact ⟨_, _, _, e⟩); subst hv1; clear ho hg hat)
        go_ret
        have hb2 : Below w1.heap.size w1 w2 := (Below.refl _ _).grown HG.out (Nat.le_refl _) (by simp)
        refine ⟨_, rfl, ?_, HP.out.1.below hb2, HP.out.2.comp0 hb2⟩
        have h9 := HO.out
        rw [List.nil_append] at h9
        refine ⟨h9.1, ?_⟩
        rcases h9.2 with h | ⟨g, cap, cur, e, hb', r⟩
        · exact .inl h
        · exact .inr ⟨g, cap, cur, e, Nat.le_trans HP.out.2.size hb', r⟩
      · rw [show bytesA (m : Int) zs pos 0 = ([], pos, 10) by simp [bytesA, hl]]
        have HT := Lib.hid (rtake_no (n := m) h (by omega))
        clear h h1
        go_enter Tryd.func52, Tryd.ntmps52
        go_wp2_with fail
        refine HT.out.mono ?_
        rintro e w1 ⟨rfl, hr, hk⟩
        have HP : Hid (RrPost w p v zs (pos, 10) w1) := ⟨hr, hk⟩
        clear hr hk HT
        go_wp2_with fail
        go_ret
        exact ⟨_, rfl, own_nil _ _, HP.out⟩
  · rw [show bytesA n zs pos why = ([], pos, why) by simp [bytesA, h0]]
    have hb : (why == 0) = false := by simpa using h0
    have hb2 : (why != 0) = true := by simpa using h0
    clear h
    go_enter Tryd.func52, Tryd.ntmps52
    go_wp2_with fail
    go_ret
    exact ⟨_, rfl, own_nil _ _, RrPost.same HR.out (Below.refl _ _)⟩
end Go.Proofs.YtceljnkbkpgdjaaDoor
