/- Scan: word. -/
import Derived.Test.YtlhecgokedckdaaDoorScSign
namespace Go.Proofs.YtlhecgokedckdaaDoor
open Go.RowKit
def wordV : Sc.Res (Nat × List Nat) → Value
  | .ok x _ => .tuple #[.int .i64 (x.1 : Int), .string (mkS x.2), .bool true]
  | .bad _ => .tuple #[.int .i64 0, .string (mkS []), .bool false]
theorem Sc.runN_cons (b : Nat) (l : List Nat) : Sc.runN (b :: l) = if Sc.isW b then Sc.runN l + 1 else 0 := rfl
/-- what holds at each round of word -/
def WordI (w : World) (p : Nat) (v : Value) (zs : List Nat) (lv : Value) (a : Nat) (wr : World) (k : Nat) : Prop :=
  k ≤ 32 ∧ a + k ≤ zs.length ∧ CutB wr p v (a + k) lv ∧ Keeps (fun k => k = p) w wr ∧ Sc.runN (zs.drop a) = k + Sc.runN (zs.drop (a + k))
theorem WordI.next {w : World} {p : Nat} {v : Value} {zs : List Nat} {lv : Value} {a : Nat} {wr wr' : World} {k : Nat} (h : WordI w p v zs lv a wr k) (hb : Below wr.heap.size wr wr') (hk : k < 32) (hlt : a + k < zs.length) (hw : Sc.isW (zs.getD (a + k) 0) = true) :
    WordI w p v zs lv a (wr'.setCell ⟨p, 1, none⟩ (.int .i64 ((a : Int) + (k : Int) + 1))) (k + 1) := by
  obtain ⟨h1, h2, h3, h4, h5⟩ := h
  refine ⟨by omega, by omega, (h3.below hb).move (a + k + 1), (h4.trans (Keeps.of_below (S := fun _ => False) hb) (fun _ _ e => e.elim)).trans (Keeps.setCell _ p 1 _) (fun _ _ e => e), ?_⟩
  rw [h5, Sc.drop_getD hlt, Sc.runN_cons, if_pos hw, show a + (k + 1) = a + k + 1 by omega]
  omega
theorem WordI.pos {w : World} {p : Nat} {v : Value} {zs : List Nat} {lv : Value} {a : Nat} {wr : World} {k : Nat} (h : WordI w p v zs lv a wr k) : posOf wr p = a + k := h.2.2.1.pos
theorem WordI.over {w : World} {p : Nat} {v : Value} {zs : List Nat} {lv : Value} {a : Nat} {wr : World} (h : WordI w p v zs lv a wr 32) (hlt : a + 32 < zs.length) (hw : Sc.isW (zs.getD (a + 32) 0) = true) : Sc.wordF (zs.drop a) = .bad 32 := by
  have h5 := h.2.2.2.2
  rw [Sc.drop_getD hlt, Sc.runN_cons, if_pos hw] at h5
  unfold Sc.wordF
  rw [if_pos (by omega)]
theorem WordI.done {w : World} {p : Nat} {v : Value} {zs : List Nat} {lv : Value} {a : Nat} {wr : World} {k : Nat} (h : WordI w p v zs lv a wr k) (hw : Sc.isW (zs.getD (a + k) 0) = false) : Sc.runN (zs.drop a) = k := by
  obtain ⟨h1, h2, h3, h4, h5⟩ := h
  rw [h5]
  by_cases hlt : a + k < zs.length
  · rw [Sc.drop_getD hlt, Sc.runN_cons, if_neg (by rw [hw]; decide)]; rfl
  · rw [List.drop_eq_nil_of_le (by omega)]; rfl
theorem Sc.isW_zero : Sc.isW 0 = false := by decide
theorem Sl.cut {w : World} {b o cap : Nat} {zs : List Nat} (h : Sl w (.slice (some ⟨b, o, none⟩) zs.length cap) zs) (a k : Nat) (hk : a + k ≤ zs.length) : Sl w (.slice (some ⟨b, o + a, none⟩) k (cap - a)) ((zs.drop a).take k) := by
  obtain ⟨ao, cap', e, h1, h2, h3, h4, h5⟩ := h
  cases e
  have hl : ((zs.drop a).take k).length = k := by simp; omega
  refine ⟨some ⟨b, o + a, none⟩, cap - a, by rw [hl], by omega, by omega, fun z hz => h3 z (List.mem_of_mem_drop (List.mem_of_mem_take hz)), by simp, fun i hi => ⟨b, o + a, rfl, ?_⟩⟩
  rw [hl] at hi
  obtain ⟨b', o', e, hc⟩ := h5 (a + i) (by omega)
  cases e
  rw [show o + a + i = o + (a + i) by omega, hc]
  congr 3
  simp only [List.getD_eq_getElem?_getD, List.getElem?_take, List.getElem?_drop]
  rw [if_pos hi]
set_option maxRecDepth 100000 in
set_option maxHeartbeats 400000 in
theorem word_any {w : World} {p : Nat} {v : Value} {a : Nat} {lv : Value} {zs : List Nat} (ht : Tabs w) (h : CutB w p v a lv) (hs : Sl w v zs) (hp : v.ownBlock ≠ some p) (hp9 : 9 ≤ p) (ha : a < zs.length) :
    Calls Tryd.prog 32 #[.pointer (some ⟨p, 0, none⟩)] w fun e w' => e = .returned (wordV (Sc.wordF (zs.drop a))) ∧ CutB w' p v (a + (Sc.wordF (zs.drop a)).len) lv ∧ Keeps (fun k => k = p) w w' := by
  have hlen := hs.len
  unfold maxLen at hlen
  have HT : Hid (Tabs w) := ht
  have HC : Hid (CutB w p v a lv) := h
  have HS : Hid (Sl w v zs) := hs
  have c1 := h.cell1
  clear ht h hs
  go_enter Tryd.func32, Tryd.ntmps32
  go_wp2
  go_loopw [14] (fun _ wr => ∃ k, WordI w p v zs lv a wr k) (fun _ wr => zs.length - posOf wr p)
  case atStart => exact ⟨0, by omega, by omega, HC.out, Keeps.refl _ _, by simp⟩
  case round =>
    obtain ⟨k, HI⟩ := hrel
    have HSr : Hid (Sl wr v zs) := HS.out.keeps HI.2.2.2.1 (fun k hk e => hp (e ▸ hk))
    have HTr : Hid (Tabs wr) := HT.out.keeps HI.2.2.2.1 (fun k hk e => by omega)
    have hk := HI.1
    have hak := HI.2.1
    have hzb := HSr.out.byte (a + k)
    have HAh : Hid (Calls Tryd.prog 31 #[.pointer (some ⟨p, 0, none⟩)] wr fun e w' => e = .returned (.int .u8 (zs.getD (a + k) 0 : Nat)) ∧ Below wr.heap.size wr w') := ahead_any HI.2.2.1 HSr.out
    have HIs : Hid (∀ W, Below wr.heap.size wr W → Calls Tryd.prog 44 #[.int .u8 ((zs.getD (a + k) 0 : Nat) : Int)] W fun e w' => e = .returned (.bool (Sc.isW (zs.getD (a + k) 0))) ∧ w' = W) := fun W hW => isWord_any hzb (HTr.out.below hW)
    obtain ⟨z, hz⟩ : ∃ z, z = zs.getD (a + k) 0 := ⟨_, rfl⟩
    have HZ : Hid (z = zs.getD (a + k) 0) := hz
    rw [← hz] at HAh HIs hzb
    clear hz
    go_wp2_with fail
    refine HAh.out.mono ?_
    rintro e w1 ⟨rfl, hb1⟩
    have HB1 : Hid (Below wr.heap.size wr w1) := hb1
    clear hb1
    go_wp2_with fail
    refine (HIs.out _ HB1.out).mono ?_
    rintro e w2 ⟨rfl, rfl⟩
    have c1 := (HI.2.2.1.below HB1.out).cell1
    have c0 := (HI.2.2.1.below HB1.out).cell0
    have t1 := (HI.2.2.1.below HB1.out).thawed 1
    have HCk : Hid (CutB w2 p v (a + k) lv) := HI.2.2.1.below HB1.out
    have HK2 : Hid (Keeps (fun k => k = p) w w2) := HI.2.2.2.1.trans (Keeps.of_below (S := fun _ => False) HB1.out) (fun _ _ e => e.elim)
    clear HAh HIs
    cases hw : Sc.isW z with
    | true =>
      have hlt : a + k < zs.length := by
        by_cases hlt : a + k < zs.length
        · exact hlt
        · rw [HZ.out, List.getD_eq_getElem?_getD, List.getElem?_eq_none (by omega)] at hw
          exact absurd hw (by decide)
      rw [HZ.out] at hw
      by_cases h32 : k = 32
      · subst h32
        have HE : Hid (Sc.wordF (zs.drop a) = .bad 32) := HI.over hlt hw
        clear hw
        go_wp2
        go_ret3
        rw [HE.out]
        exact ⟨rfl, HCk.out, HK2.out⟩
      · have q : ((a : Int) + (k : Int) - (a : Int) == 32) = false := beq_eq_false_iff_ne.2 (by omega)
        have hn := HI.next HB1.out (by omega) hlt hw
        have hpp := hn.pos
        have hpq := HI.pos
        clear hw
        go_wp2_with fail
        refine ⟨⟨k + 1, hn⟩, ?_⟩
        rw [hpp, hpq]
        omega
    | false =>
      rw [HZ.out] at hw
      have hr := HI.done hw
      clear hw
      obtain ⟨b, o, cap, rfl, h1, h2, _, _⟩ := HSr.out.pos (by omega)
      unfold maxLen at h2
      have HSk : Hid (Sl w2 (.slice (some ⟨b, o + a, none⟩) k (cap - a)) ((zs.drop a).take k)) := (HSr.out.below HB1.out).cut a k hak
      have hwf : Sc.wordF (zs.drop a) = .ok (if Sc.reservedF ((zs.drop a).take k) = 0 then (1, (zs.drop a).take k) else (Sc.reservedF ((zs.drop a).take k), [])) k := by
        unfold Sc.wordF
        rw [hr, if_neg (by omega)]
      have hsT := sb_mkS (HSk.out.small)
      have HRe : Hid (∀ n, Calls Tryd.prog 27 #[.string (mkS ((zs.drop a).take k))] (w2.drewN n) fun e w' => e = .returned (.int .i64 (Sc.reservedF ((zs.drop a).take k) : Nat)) ∧ w' = w2.drewN n) := fun n => by
        have := reserved_any (mkS ((zs.drop a).take k)) ((HTr.out.below HB1.out).below (bdn (Below.refl _ _) n))
        rw [hsT] at this
        exact this
      have hcv : ∀ n, (convert 28 9 (.slice (some ⟨b, o + a, none⟩) k (cap - a))).run Tryd.prog (w2.drewN n) = .ok (.string (mkS ((zs.drop a).take k))) (w2.drewN n) := fun n => conv_str (HSk.out.below (bdn (Below.refl _ _) n))
      have hca : ¬ cap = a := by omega
      have htn : ((a : Int) + (k : Int)).toNat = a + k := by omega
      have i1 : (a : Int) + (k : Int) ≤ (cap : Int) := by omega
      have i2 : (a : Int) ≤ (a : Int) + (k : Int) := by omega
      go_wp2_with fail
      go_quiet (fail)
      go_wp2_with fail
      refine (HRe.out _).mono ?_
      rintro e w3 ⟨rfl, rfl⟩
      clear HRe hcv HSk hsT
      have HKn : ∀ n, Hid (Keeps (fun k => k = p) w (w2.drewN n)) := fun n => HK2.out.trans (Keeps.of_below (S := fun _ => False) (bdn (Below.refl _ _) n)) (fun _ _ e => e.elim)
      by_cases h0 : Sc.reservedF ((zs.drop a).take k) = 0
      · rw [if_pos h0] at hwf
        rw [h0]
        have HE : Hid (Sc.wordF (zs.drop a) = .ok (1, (zs.drop a).take k) k) := hwf
        clear hwf h0
        generalize (zs.drop a).take k = T at *
        go_wp2
        go_ret3
        rw [HE.out]
        exact ⟨rfl, HCk.out, (HKn _).out⟩
      · rw [if_neg h0] at hwf
        have q0 : ((Sc.reservedF ((zs.drop a).take k) : Int) != 0) = true := by rw [bne_iff_ne]; omega
        have HE : Hid (Sc.wordF (zs.drop a) = .ok (Sc.reservedF ((zs.drop a).take k), []) k) := hwf
        clear hwf h0
        generalize Sc.reservedF ((zs.drop a).take k) = R at *
        go_wp2
        go_ret3
        rw [HE.out]
        exact ⟨rfl, HCk.out, (HKn _).out⟩
end Go.Proofs.YtlhecgokedckdaaDoor
