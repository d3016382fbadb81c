/- ScanWords, walked. -/
import Derived.Test.YtkddfhnfhncgpaaDoorRefN
import Derived.Test.YtkddfhnfhncgpaaDoorRefL
import Derived.Test.YtkddfhnfhncgpaaDoorScNum
import Derived.Test.YtkddfhnfhncgpaaDoorScKnown
namespace Go.Proofs.YtkddfhnfhncgpaaDoor
open Go.RowKit Sc
set_option maxRecDepth 100000 in
set_option maxHeartbeats 2000000 in
theorem words_walk {w : World} {s t : ByteArray} {x : Int} (ht : Tabs w) (hr : RTabs w) (hp : Pows w) (h9 : 8 ≤ w.heap.size) (hx0 : 0 ≤ x) (hx1 : x < 18446744073709551616) :
    Calls Tryd.prog 3 #[.string s, .int .u64 x, .string t] w fun e w' => e = .returned (.bool true) ∧ Below w.heap.size w w' := by
  have HK : Hid (∀ W, Below w.heap.size w W → Calls Tryd.prog 5 #[] W fun e w' => e = .returned (.bool true) ∧ Below W.heap.size W w') := fun W hW => known_any (ht.below hW) (Nat.le_trans h9 hW.size)
  by_cases hbig : 16777216 < t.size
  · have i0 : (16777216 : Int) < (t.size : Int) := by omega
    clear ht hr hp
    go_enter Tryd.func3, Tryd.ntmps3
    go_wp2_with fail
    refine (HK.out _ (Below.refl _ _)).mono ?_
    rintro e w1 ⟨rfl, hb1⟩
    go_wp2_with fail
    go_ret
    exact ⟨rfl, hb1⟩
  · have i0 : ¬ (16777216 : Int) < (t.size : Int) := by omega
    have HL1 : Hid (∀ W, Below w.heap.size w W → Calls Tryd.prog 6 #[.string s] W fun e w' => e = .returned (.bool (legalF (sb s))) ∧ W = w') := fun W hW => (legal_any s (ht.below hW)).mono fun _ _ h => ⟨h.1, h.2.symm⟩
    have HL2 : Hid (∀ W, Below w.heap.size w W → Calls Tryd.prog 7 #[.string s] W fun e w' => e = .returned (.bool (legalF (sb s))) ∧ W = w') := fun W hW => rLegal_any s (hr.below hW)
    have HN1 : Hid (∀ W, Below w.heap.size w W → Calls Tryd.prog 8 #[.string s] W fun e w' => e = .returned (.bool (namedF (sb s))) ∧ Below W.heap.size W w') := fun W hW => named_any s (ht.below hW)
    have HN2 : Hid (∀ W, Below w.heap.size w W → Calls Tryd.prog 9 #[.string s] W fun e w' => e = .returned (.bool (namedF (sb s))) ∧ Below W.heap.size W w') := fun W hW => rNamed_any s (hr.below hW)
    have HR1 : Hid (∀ W, Below w.heap.size w W → Calls Tryd.prog 10 #[.string s] W fun e w' => e = .returned (.int .i64 (reservedF (sb s) : Nat)) ∧ w' = W) := fun W hW => reserved_any s (ht.below hW)
    have HR2 : Hid (∀ W, Below w.heap.size w W → Calls Tryd.prog 11 #[.string s] W fun e w' => e = .returned (.int .i64 (reservedF (sb s) : Nat)) ∧ w' = W) := fun W hW => rReserved_any s (hr.below hW)
    obtain ⟨n, hn⟩ : ∃ n : Nat, x = (n : Int) := ⟨x.toNat, by omega⟩
    have hnt : n ≤ top := by unfold top; omega
    have HD1 : Hid (∀ W, Below w.heap.size w W → Calls Tryd.prog 13 #[.int .u64 x] W fun e w' => ∃ v, e = .returned v ∧ Own w' W.heap.size v (decN n) ∧ Below W.heap.size W w') := fun W hW => number_any hn hnt (hp.below hW)
    have HD2 : Hid (∀ W, Calls Tryd.prog 14 #[.int .u64 x] W fun e w' => ∃ v, e = .returned v ∧ Own w' W.heap.size v (decN n) ∧ Below W.heap.size W w') := fun W => rNumber_any hn hnt W
    have HQ1 : Hid (∀ W, Calls Tryd.prog 15 #[.string t] W fun e w' => ∃ v, e = .returned v ∧ Own w' W.heap.size v (quoteF (sb t)) ∧ Below W.heap.size W w') := fun W => quote_any t (by omega) W
    have HQ2 : Hid (∀ W, Calls Tryd.prog 16 #[.string t] W fun e w' => ∃ v, e = .returned v ∧ Own w' W.heap.size v (quoteF (sb t)) ∧ Below W.heap.size W w') := fun W => rQuote_any t (by omega) W
    have HSm : Hid (∀ W u v xs, Sl W u xs → Sl W v xs → Calls Tryd.prog 12 #[u, v] W fun e w' => e = .returned (.bool true) ∧ Below W.heap.size W w') := fun W u v xs h1 h2 => same_any h1 h2
    have HZ : Hid ((∀ z ∈ decN n, z < 256) ∧ (∀ z ∈ quoteF (sb t), z < 256)) := ⟨fun z hz => by have := decN_small n z hz; omega, Sc.quoteF_small (sb_small t)⟩
    clear ht hr hp hnt hn hbig hx0 hx1
    generalize legalF (sb s) = b1 at *
    generalize namedF (sb s) = b2 at *
    generalize reservedF (sb s) = b3 at *
    generalize decN n = D at *
    generalize quoteF (sb t) = Q at *
    go_enter Tryd.func3, Tryd.ntmps3
    go_wp2_with fail
    refine (HL1.out _ (Below.refl _ _)).mono ?_
    rintro e w1 ⟨rfl, rfl⟩
    go_wp2_with fail
    refine (HL2.out _ (Below.refl _ _)).mono ?_
    rintro e w1 ⟨rfl, rfl⟩
    go_wp2_with fail
    refine (HN1.out _ (Below.refl _ _)).mono ?_
    rintro e w1 ⟨rfl, hb1⟩
    have HB1 : Hid (Below w.heap.size w w1) := hb1
    clear hb1
    go_wp2_with fail
    refine (HN2.out _ HB1.out).mono ?_
    rintro e w2 ⟨rfl, hb2⟩
    have HB2 : Hid (Below w.heap.size w w2) := HB1.out.trans (hb2.mono HB1.out.size)
    clear hb2
    go_wp2_with fail
    refine (HR1.out _ HB2.out).mono ?_
    rintro e w3 ⟨rfl, rfl⟩
    go_wp2_with fail
    refine (HR2.out _ HB2.out).mono ?_
    rintro e w3 ⟨rfl, rfl⟩
    go_wp2_with fail
    refine (HD1.out _ HB2.out).mono ?_
    rintro e w4 ⟨v4, rfl, ho4, hb4⟩
    have HO4 : Hid (Sl w4 v4 D) := ho4.sl HZ.out.1
    have HB4 : Hid (Below w.heap.size w w4) := HB2.out.trans (hb4.mono HB2.out.size)
    clear ho4 hb4
    go_wp2_with fail
    refine (HD2.out _).mono ?_
    rintro e w5 ⟨v5, rfl, ho5, hb5⟩
    have HS5 : Hid (Sl w5 v4 D ∧ Sl w5 v5 D) := ⟨HO4.out.below hb5, ho5.sl HZ.out.1⟩
    have HB5 : Hid (Below w.heap.size w w5) := HB4.out.trans (hb5.mono HB4.out.size)
    clear ho5 hb5
    go_wp2_with fail
    refine (HSm.out _ _ _ _ HS5.out.1 HS5.out.2).mono ?_
    rintro e w6 ⟨rfl, hb6⟩
    have HB6 : Hid (Below w.heap.size w w6) := HB5.out.trans (hb6.mono HB5.out.size)
    clear hb6
    go_wp2_with fail
    refine (HQ1.out _).mono ?_
    rintro e w7 ⟨v7, rfl, ho7, hb7⟩
    have HO7 : Hid (Sl w7 v7 Q) := ho7.sl HZ.out.2
    have HB7 : Hid (Below w.heap.size w w7) := HB6.out.trans (hb7.mono HB6.out.size)
    clear ho7 hb7
    go_wp2_with fail
    refine (HQ2.out _).mono ?_
    rintro e w8 ⟨v8, rfl, ho8, hb8⟩
    have HS8 : Hid (Sl w8 v7 Q ∧ Sl w8 v8 Q) := ⟨HO7.out.below hb8, ho8.sl HZ.out.2⟩
    have HB8 : Hid (Below w.heap.size w w8) := HB7.out.trans (hb8.mono HB7.out.size)
    clear ho8 hb8
    go_wp2_with fail
    refine (HSm.out _ _ _ _ HS8.out.1 HS8.out.2).mono ?_
    rintro e w9 ⟨rfl, hb9⟩
    have HB9 : Hid (Below w.heap.size w w9) := HB8.out.trans (hb9.mono HB8.out.size)
    clear hb9
    go_wp2_with fail
    refine (HK.out _ HB9.out).mono ?_
    rintro e w10 ⟨rfl, hb10⟩
    go_wp2_with fail
    go_ret
    exact ⟨rfl, HB9.out.trans (hb10.mono HB9.out.size)⟩
end Go.Proofs.YtkddfhnfhncgpaaDoor
