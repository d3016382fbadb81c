/- ScanBack, walked. -/
import Derived.Test.YtphdpolbmjmkdaaDoorScOne
import Derived.Test.YtphdpolbmjmkdaaDoorScNum
import Derived.Test.YtphdpolbmjmkdaaDoorScKnown
import Derived.Lib.ConvBytes
import Derived.Lib.AtoiErrMem
import Derived.Deep.DeepCutAuto
import Derived.Deep.CutBlock
namespace Go.Proofs.YtphdpolbmjmkdaaDoor
open Go.RowKit Sc
/-- a row of one lexeme -/
def OneAt (w : World) (g : Nat) (t : Sc.Tok) : Prop := w.cell? ⟨g, 0, none⟩ = some (.int .i64 (t.kind : Int)) ∧ w.cell? ⟨g, 1, none⟩ = some (.int .u64 (t.n : Int)) ∧ w.cell? ⟨g, 2, none⟩ = some (.string (mkS t.s)) ∧ w.cell? ⟨g, 3, none⟩ = some (.int .i64 (t.at_ : Int)) ∧ w.cell? ⟨g, 4, none⟩ = some (.int .i64 (t.end_ : Int))
theorem OwnT.one {w : World} {base : Nat} {v : Value} {t : Sc.Tok} (h : OwnT w base v [t]) : ∃ g c, v = .slice (some ⟨g, 0, none⟩) 1 c ∧ OneAt w g t := by
  obtain ⟨g, c, rfl, _, _, _, _, hc⟩ := h.cells (by simp)
  exact ⟨g, c, rfl, hc 0 0 (by simp) (by omega), hc 0 1 (by simp) (by omega), hc 0 2 (by simp) (by omega), hc 0 3 (by simp) (by omega), hc 0 4 (by simp) (by omega)⟩
/-- Tokens of a text that is one lexeme -/
theorem one_any {w : World} {v : Value} {zs : List Nat} {t : Sc.Tok} (ht : Tabs w) (hs : Sl w v zs) (hv : ∀ k, v.ownBlock = some k → k < w.heap.size) (h9 : 7 ≤ w.heap.size) (ho : tokens zs = ([t], 0, 0)) :
    Calls Tryd.prog 6 #[v] w fun e w' => ∃ g c, e = .returned (.tuple #[.slice (some ⟨g, 0, none⟩) 1 c, .int .i64 0, .int .i64 0]) ∧ OneAt w' g t ∧ Below w.heap.size w w' := by
  have hx := tokens_any ht hs hv h9
  rw [ho] at hx
  refine hx.mono ?_
  rintro e w' ⟨lv, rfl, h1, h2⟩
  obtain ⟨g, c, rfl, h3⟩ := h1.one
  exact ⟨g, c, rfl, h3, h2⟩
theorem Sc.tokens_at {l : List Nat} {ts : List Sc.Tok} {a : Nat} (h : tokens l = (ts, a, 0)) : a = 0 := by
  unfold tokens at h
  split at h
  · cases h
  · split at h
    · cases h; rfl
    · cases h
theorem Sc.quote_len (s : List Nat) : s.length + 2 ≤ (quoteF s).length := by
  have : ∀ s : List Nat, s.length ≤ (s.flatMap spellF).length := by
    intro s
    induction s with
    | nil => simp
    | cons b s ih =>
      have : 1 ≤ (spellF b).length := by unfold spellF; split <;> (try split) <;> (try split) <;> (try split) <;> simp
      simp only [List.flatMap_cons, List.length_append, List.length_cons]
      omega
  have := this s
  unfold quoteF
  simp only [List.length_append, List.length_cons, List.length_nil]
  omega
/-- []byte of a string -/
theorem conv_bytes (w : World) (s : ByteArray) (hs : s.size ≤ 140737488355328) : ∃ c W, (convert 9 22 (.string s)).run Tryd.prog w = .ok (.slice (some ⟨w.heap.size, 0, none⟩) s.size c) W ∧ Sl W (.slice (some ⟨w.heap.size, 0, none⟩) s.size c) (sb s) ∧ Below w.heap.size w W ∧ w.heap.size < W.heap.size := by
  refine ⟨_, _, Lib.run_convert_string_bytes w 9 22 5 s Tryd.underlying9 Tryd.underlying22 Tryd.underlying5, ?_, Lib.bytesWorld_below _ _ _, by rw [Lib.bytesWorld_size]; omega⟩
  have hl := sb_length s
  refine ⟨_, _, by rw [hl], by rw [hl]; exact grownCap_ge _ _ _ _, grownCap_le_maxLen _ _ _ _ (by unfold maxLen; omega), sb_small s, by simp, fun i hi => ⟨_, _, rfl, ?_⟩⟩
  rw [hl] at hi
  rw [Nat.zero_add, Lib.bytesWorld_cell _ _ _ i hi]
  congr 2
  unfold sb
  have h' : i < s.data.toList.length := by simpa using hi
  rw [List.getD_eq_getElem?_getD, List.getD_eq_getElem?_getD, List.getElem?_map, List.getElem?_eq_getElem h']
  rfl
set_option maxRecDepth 100000 in
set_option maxHeartbeats 2000000 in
theorem back_walk {w : World} {s t : ByteArray} {n : Nat} (ht : Tabs w) (hp : Pows w) (h9 : 7 ≤ w.heap.size) (hn : n ≤ top) :
    Calls Tryd.prog 4 #[.int .u64 (n : Int), .string t, .string s] w fun e w' => e = .returned (.bool true) ∧ Below w.heap.size w w' := by
  have HK : Hid (∀ W, Below w.heap.size w W → Calls Tryd.prog 5 #[] W fun e w' => e = .returned (.bool true) ∧ Below W.heap.size W w') := fun W hW => known_any (ht.below hW) (Nat.le_trans h9 hW.size)
  have HNu : Hid (Calls Tryd.prog 7 #[.int .u64 (n : Int)] w fun e w' => ∃ v, e = .returned v ∧ Own w' w.heap.size v (decN n) ∧ Below w.heap.size w w') := number_any rfl hn hp
  have HQu : Hid (t.size < 200000 → ∀ W, Calls Tryd.prog 8 #[.string t] W fun e w' => ∃ v, e = .returned v ∧ Own w' W.heap.size v (quoteF (sb t)) ∧ Below W.heap.size W w') := fun h W => quote_any t (by omega) W
  have HTo : Hid (∀ W v zs u, Below w.heap.size w W → Sl W v zs → (∀ k, v.ownBlock = some k → k < W.heap.size) → tokens zs = ([u], 0, 0) → Calls Tryd.prog 6 #[v] W fun e w' => ∃ g c, e = .returned (.tuple #[.slice (some ⟨g, 0, none⟩) 1 c, .int .i64 0, .int .i64 0]) ∧ OneAt w' g u ∧ Below W.heap.size W w') := fun W v zs u hW hs hv hz => one_any (ht.below hW) hs hv (Nat.le_trans h9 hW.size) hz
  have HTa : Hid (∀ W v zs, Below w.heap.size w W → Sl W v zs → (∀ k, v.ownBlock = some k → k < W.heap.size) → Calls Tryd.prog 6 #[v] W fun e w' => ∃ lv, e = .returned (.tuple #[lv, .int .i64 ((tokens zs).2.1 : Nat), .int .i64 ((tokens zs).2.2 : Nat)]) ∧ OwnT w' W.heap.size lv (tokens zs).1 ∧ Below W.heap.size W w') := fun W v zs hW hs hv => tokens_any (ht.below hW) hs hv (Nat.le_trans h9 hW.size)
  have HLe : Hid (∀ W, Below w.heap.size w W → Calls Tryd.prog 9 #[.string s] W fun e w' => e = .returned (.bool (legalF (sb s))) ∧ W = w') := fun W hW => (legal_any s (ht.below hW)).mono fun _ _ h => ⟨h.1, h.2.symm⟩
  have HRe : Hid (∀ W, Below w.heap.size w W → Calls Tryd.prog 10 #[.string s] W fun e w' => e = .returned (.int .i64 (reservedF (sb s) : Nat)) ∧ W = w') := fun W hW => (reserved_any s (ht.below hW)).mono fun _ _ h => ⟨h.1, h.2.symm⟩
  have HD : Hid (tokens (decN n) = ([⟨2, n, [], 0, (decN n).length⟩], 0, 0) ∧ (∀ z ∈ decN n, z < 256)) := ⟨tokens_dec hn, fun z hz => by have := decN_small n z hz; omega⟩
  clear ht hp h9 hn
  go_enter Tryd.func4, Tryd.ntmps4
  go_wp2_with fail
  refine HNu.out.mono ?_
  rintro e w1 ⟨v1, rfl, ho1, hb1⟩
  have HB1 : Hid (Below w.heap.size w w1) := hb1
  have HT1 : Hid (Calls Tryd.prog 6 #[v1] w1 fun e w' => ∃ g c, e = .returned (.tuple #[.slice (some ⟨g, 0, none⟩) 1 c, .int .i64 0, .int .i64 0]) ∧ OneAt w' g ⟨2, n, [], 0, (decN n).length⟩ ∧ Below w1.heap.size w1 w') := HTo.out w1 v1 _ _ hb1 (ho1.sl HD.out.2) (fun k hk => (ho1.lt k hk).2) HD.out.1
  clear hb1 ho1 HNu HD
  go_wp2_with fail
  refine HT1.out.mono ?_
  rintro e w2 ⟨g2, c2, rfl, hg2, hb2⟩
  have HB2 : Hid (Below w.heap.size w w2) := HB1.out.trans (hb2.mono HB1.out.size)
  obtain ⟨d0, d1, _, _, _⟩ := hg2
  clear hb2 HT1 HB1
  go_upto_if 44 with fail
  go_cut [7, 9, 10] (fun _ _ _ wx => Hid (Below w.heap.size w wx))
  case first =>
    by_cases hq : t.size < 200000
    · generalize hL : (200000 : Int) = L
      have iq : (t.size : Int) < L := by omega
      have HQ1 := Lib.hid (HQu.out hq w2)
      have HX : Hid (∀ W v, Below w.heap.size w W → Own W w2.heap.size v (quoteF (sb t)) → Calls Tryd.prog 6 #[v] W fun e w' => ∃ g c, e = .returned (.tuple #[.slice (some ⟨g, 0, none⟩) 1 c, .int .i64 0, .int .i64 0]) ∧ OneAt w' g ⟨3, 0, sb t, 0, (quoteF (sb t)).length⟩ ∧ Below W.heap.size W w') := fun W v hW ho => HTo.out W v _ _ hW (ho.sl (Sc.quoteF_small (sb_small t))) (fun k hk => (ho.lt k hk).2) (tokens_quote (sb_small t) (by rw [sb_length]; omega))
      have hql := Sc.quote_len (sb t)
      rw [sb_length] at hql
      have hqm : (quoteF (sb t)).length ≤ 1000000 := by
        have := Sc.spells_len (sb t)
        rw [sb_length] at this
        unfold quoteF
        simp only [List.length_append, List.length_cons, List.length_nil]
        omega
      have HMk : Hid (mkS (sb t) = t) := mkS_sb t
      have HQn : Hid (t.size + 2 ≤ (quoteF (sb t)).length ∧ (quoteF (sb t)).length ≤ 1000000) := ⟨hql, hqm⟩
      clear hql hqm hq hL
      go_wp2_with fail
      refine HQ1.out.mono ?_
      rintro e w3 ⟨v3, rfl, ho3, hb3⟩
      have HB3 : Hid (Below w.heap.size w w3) := HB2.out.trans (hb3.mono HB2.out.size)
      obtain ⟨g3, c3, rfl, _⟩ := ho3.form (by have := HQn.out.1; omega)
      have HT3 := Lib.hid (HX.out w3 _ HB3.out ho3)
      clear ho3 hb3 HQ1 HX d0 d1
      generalize (quoteF (sb t)).length = N at *
      go_wp2_with fail
      refine HT3.out.mono ?_
      rintro e w4 ⟨g4, c4, rfl, hg4, hb4⟩
      have HB4 : Hid (Below w.heap.size w w4) := HB3.out.trans (hb4.mono HB3.out.size)
      obtain ⟨d0, _, d2, _, d4⟩ := hg4
      simp only [HMk.out] at d0 d2 d4
      have n2 : ¬ (N : Int) < (t.size : Int) + 2 := by have := HQn.out.1; omega
      have n3 : wrap64 ((t.size : Int) + 2) = (t.size : Int) + 2 := by have := HQn.out; unfold wrap64; omega
      clear hb4 HT3 HB3 HMk
      go_wp2_with fail
      go_meet
      exact HB4
    · generalize hL : (200000 : Int) = L
      have iq : ¬ (t.size : Int) < L := by omega
      clear hq hL
      go_wp2_with fail
      go_meet
      exact HB2
  case rest =>
    have HBc : Hid (Below w.heap.size w wc) := hcut
    clear hcut HB2 d0 d1
    by_cases hbig : 100000 < s.size
    · have ib : (100000 : Int) < (s.size : Int) := by omega
      have hleg : legalF (sb s) = false := by
        unfold legalF
        rw [sb_length, decide_eq_false (show ¬ s.size ≤ 32 from by omega)]
        simp
      rw [hleg] at HLe
      clear hleg hbig HQu HTo HTa HRe
      go_wp2_with fail
      refine (HLe.out _ HBc.out).mono ?_
      rintro e w5 ⟨rfl, rfl⟩
      go_wp2_with fail
      refine (HK.out _ HBc.out).mono ?_
      rintro e w6 ⟨rfl, hb6⟩
      go_wp2_with fail
      go_ret
      exact ⟨rfl, HBc.out.trans (hb6.mono HBc.out.size)⟩
    · have ib : ¬ (100000 : Int) < (s.size : Int) := by omega
      obtain ⟨c5, W5, hcv, hsl5, hb5, hlt5⟩ := conv_bytes wc s (by omega)
      have HB5 : Hid (Below w.heap.size w W5) := HBc.out.trans (hb5.mono HBc.out.size)
      have HO5 : Hid (∀ k, Value.ownBlock (.slice (some ⟨wc.heap.size, 0, none⟩) s.size c5) = some k → k < W5.heap.size) := fun k hk => by cases hk; exact hlt5
      have HM5 : Hid (mkS (sb s) = s) := mkS_sb s
      have HS5 : Hid (Sl W5 (.slice (some ⟨wc.heap.size, 0, none⟩) s.size c5) (sb s)) := hsl5
      have HLn : Hid ((sb s).length = s.size) := sb_length s
      clear hb5 hlt5 hsl5 hbig HQu
      cases hw : wordB (sb s) with
      | true =>
        have hone := tokens_word hw
        have HT5 := Lib.hid (HTo.out W5 _ _ _ HB5.out HS5.out HO5.out hone)
        have hlg := legal_word (sb s)
        rw [hw] at hlg
        by_cases hr : reservedF (sb s) = 0
        · have hlg' : legalF (sb s) = true := by rw [hlg, hr]; rfl
          simp only [hr, if_true, HLn.out] at HT5
          rw [hlg'] at HLe
          rw [hr] at HRe
          clear hone hlg hlg' hr hw HTo HTa
          go_wp2_with fail
          refine HT5.out.mono ?_
          rintro e w6 ⟨g6, c6, rfl, hg6, hb6⟩
          obtain ⟨d0, _, d2, d3, d4⟩ := hg6
          simp only [HM5.out] at d0 d2 d3 d4
          have HB6 : Hid (Below w.heap.size w w6) := HB5.out.trans (hb6.mono HB5.out.size)
          clear hb6 HT5 hcv
          go_wp2_with fail
          refine (HLe.out _ HB6.out).mono ?_
          rintro e w7 ⟨rfl, rfl⟩
          go_wp2_with fail
          refine (HRe.out _ HB6.out).mono ?_
          rintro e w7 ⟨rfl, rfl⟩
          go_wp2_with fail
          refine (HK.out _ HB6.out).mono ?_
          rintro e w8 ⟨rfl, hb8⟩
          go_wp2_with fail
          go_ret
          exact ⟨rfl, HB6.out.trans (hb8.mono HB6.out.size)⟩
        · obtain ⟨_, k1, k2⟩ := reserved_word hr
          have hlg' : legalF (sb s) = false := by rw [hlg, decide_eq_false hr]; rfl
          simp only [hr, if_false, HLn.out] at HT5
          rw [hlg'] at HLe
          generalize reservedF (sb s) = k at *
          have i1 : (30 : Int) ≤ (k : Int) := by omega
          have i2 : (k : Int) ≤ 73 := by omega
          have i3 : ((k : Int) == 0) = false := beq_eq_false_iff_ne.2 (by omega)
          have i4 : ((k : Int) == 1) = false := beq_eq_false_iff_ne.2 (by omega)
          have i5 : ((k : Int) != 0) = true := by rw [bne, i3]; rfl
          clear hone hlg hlg' hr hw HTo HTa k1 k2
          go_wp2_with fail
          refine HT5.out.mono ?_
          rintro e w6 ⟨g6, c6, rfl, hg6, hb6⟩
          obtain ⟨d0, _, d2, d3, d4⟩ := hg6
          simp only at d0 d2 d3 d4
          have HB6 : Hid (Below w.heap.size w w6) := HB5.out.trans (hb6.mono HB5.out.size)
          clear hb6 HT5 hcv
          go_wp2_with fail
          refine (HLe.out _ HB6.out).mono ?_
          rintro e w7 ⟨rfl, rfl⟩
          go_wp2_with fail
          refine (HRe.out _ HB6.out).mono ?_
          rintro e w7 ⟨rfl, rfl⟩
          go_wp2_with fail
          refine (HK.out _ HB6.out).mono ?_
          rintro e w8 ⟨rfl, hb8⟩
          go_wp2_with fail
          go_ret
          exact ⟨rfl, HB6.out.trans (hb8.mono HB6.out.size)⟩
      | false =>
        have hlg : legalF (sb s) = false := by rw [legal_word, hw]; rfl
        have hrs : reservedF (sb s) = 0 := Classical.byContradiction fun h => by have := (reserved_word h).1; rw [hw] at this; cases this
        rw [hlg] at HLe
        rw [hrs] at HRe
        have HT5 := Lib.hid (HTa.out W5 _ _ HB5.out HS5.out HO5.out)
        have HWb : Hid (∀ t a, tokens (sb s) = ([t], a, 0) → t.at_ = 0 → t.end_ = s.size → ¬ (t.kind = 1 ∨ 30 ≤ t.kind)) := fun t a h1 h2 h3 h4 => by
          have h0 := tokens_at h1
          subst h0
          have := word_back h1 h2 (by rw [h3, HLn.out]) h4
          rw [hw] at this
          cases this
        clear hlg hrs hw HTo HTa
        cases hx : tokens (sb s) with
        | mk ts rest =>
          obtain ⟨at_, er⟩ := rest
          rw [hx] at HT5 HWb
          clear hx
          by_cases he : er = 0
          · subst he
            by_cases hl1 : ts.length = 1
            · obtain ⟨u, rfl⟩ := List.length_eq_one_iff.1 hl1
              clear hl1
              have HT6 : Hid (Calls Tryd.prog 6 #[.slice (some ⟨wc.heap.size, 0, none⟩) s.size c5] W5 fun e w' => ∃ g c, e = .returned (.tuple #[.slice (some ⟨g, 0, none⟩) 1 c, .int .i64 (at_ : Int), .int .i64 0]) ∧ OneAt w' g u ∧ Below W5.heap.size W5 w') := HT5.out.mono (by
                rintro e w' ⟨lv, rfl, h1, h2⟩
                obtain ⟨g, c, rfl, h3⟩ := h1.one
                exact ⟨g, c, rfl, h3, h2⟩)
              clear HT5
              by_cases h0 : u.at_ = 0
              · by_cases h1 : u.end_ = s.size
                · have hk := fun e => HWb.out u at_ rfl h0 h1 e
                  have i1 : ((u.kind : Int) == 1) = false := beq_eq_false_iff_ne.2 (fun e => hk (.inl (by omega)))
                  have i2 : ¬ (30 : Int) ≤ (u.kind : Int) := fun e => hk (.inr (by omega))
                  have i3 : ((u.end_ : Int) == (s.size : Int)) = true := by rw [h1]; exact beq_self_eq_true _
                  have i4 : ((u.at_ : Int) == 0) = true := by rw [h0]; rfl
                  clear hk h0 h1 HWb
                  go_wp2_with fail
                  refine HT6.out.mono ?_
                  rintro e w6 ⟨g6, c6, rfl, hg6, hb6⟩
                  have HT5 := HT6
                  clear HT6
                  obtain ⟨d0, _, d2, d3, d4⟩ := hg6
                  have HB6 : Hid (Below w.heap.size w w6) := HB5.out.trans (hb6.mono HB5.out.size)
                  clear hb6 HT5 hcv
                  go_wp2_with fail
                  refine (HLe.out _ HB6.out).mono ?_
                  rintro e w7 ⟨rfl, rfl⟩
                  go_wp2_with fail
                  refine (HRe.out _ HB6.out).mono ?_
                  rintro e w7 ⟨rfl, rfl⟩
                  go_wp2_with fail
                  refine (HK.out _ HB6.out).mono ?_
                  rintro e w8 ⟨rfl, hb8⟩
                  go_wp2_with fail
                  go_ret
                  exact ⟨rfl, HB6.out.trans (hb8.mono HB6.out.size)⟩
                · have i3 : ((u.end_ : Int) == (s.size : Int)) = false := beq_eq_false_iff_ne.2 (fun e => h1 (by omega))
                  have i4 : ((u.at_ : Int) == 0) = true := by rw [h0]; rfl
                  clear h0 h1 HWb
                  go_wp2_with fail
                  refine HT6.out.mono ?_
                  rintro e w6 ⟨g6, c6, rfl, hg6, hb6⟩
                  have HT5 := HT6
                  clear HT6
                  obtain ⟨d0, _, d2, d3, d4⟩ := hg6
                  have HB6 : Hid (Below w.heap.size w w6) := HB5.out.trans (hb6.mono HB5.out.size)
                  clear hb6 HT5 hcv
                  go_wp2_with fail
                  refine (HLe.out _ HB6.out).mono ?_
                  rintro e w7 ⟨rfl, rfl⟩
                  go_wp2_with fail
                  refine (HRe.out _ HB6.out).mono ?_
                  rintro e w7 ⟨rfl, rfl⟩
                  go_wp2_with fail
                  refine (HK.out _ HB6.out).mono ?_
                  rintro e w8 ⟨rfl, hb8⟩
                  go_wp2_with fail
                  go_ret
                  exact ⟨rfl, HB6.out.trans (hb8.mono HB6.out.size)⟩
              · have i4 : ((u.at_ : Int) == 0) = false := beq_eq_false_iff_ne.2 (fun e => h0 (by omega))
                clear h0 HWb
                go_wp2_with fail
                refine HT6.out.mono ?_
                rintro e w6 ⟨g6, c6, rfl, hg6, hb6⟩
                have HT5 := HT6
                clear HT6
                obtain ⟨d0, _, d2, d3, d4⟩ := hg6
                have HB6 : Hid (Below w.heap.size w w6) := HB5.out.trans (hb6.mono HB5.out.size)
                clear hb6 HT5 hcv
                go_wp2_with fail
                refine (HLe.out _ HB6.out).mono ?_
                rintro e w7 ⟨rfl, rfl⟩
                go_wp2_with fail
                refine (HRe.out _ HB6.out).mono ?_
                rintro e w7 ⟨rfl, rfl⟩
                go_wp2_with fail
                refine (HK.out _ HB6.out).mono ?_
                rintro e w8 ⟨rfl, hb8⟩
                go_wp2_with fail
                go_ret
                exact ⟨rfl, HB6.out.trans (hb8.mono HB6.out.size)⟩
            · have i1 : ((ts.length : Int) == 1) = false := beq_eq_false_iff_ne.2 (fun e => hl1 (by omega))
              clear hl1 HWb
              go_wp2_with fail
              refine HT5.out.mono ?_
              rintro e w6 ⟨lv6, rfl, ho6, hb6⟩
              obtain ⟨a6, c6, rfl⟩ := ho6.form
              clear ho6
              have HB6 : Hid (Below w.heap.size w w6) := HB5.out.trans (hb6.mono HB5.out.size)
              clear hb6 HT5 hcv
              go_wp2_with fail
              refine (HLe.out _ HB6.out).mono ?_
              rintro e w7 ⟨rfl, rfl⟩
              go_wp2_with fail
              refine (HRe.out _ HB6.out).mono ?_
              rintro e w7 ⟨rfl, rfl⟩
              go_wp2_with fail
              refine (HK.out _ HB6.out).mono ?_
              rintro e w8 ⟨rfl, hb8⟩
              go_wp2_with fail
              go_ret
              exact ⟨rfl, HB6.out.trans (hb8.mono HB6.out.size)⟩
          · have i1 : ((er : Int) == 0) = false := beq_eq_false_iff_ne.2 (fun e => he (by omega))
            clear he HWb
            go_wp2_with fail
            refine HT5.out.mono ?_
            rintro e w6 ⟨lv6, rfl, ho6, hb6⟩
            obtain ⟨a6, c6, rfl⟩ := ho6.form
            clear ho6
            have HB6 : Hid (Below w.heap.size w w6) := HB5.out.trans (hb6.mono HB5.out.size)
            clear hb6 HT5 hcv
            go_wp2_with fail
            refine (HLe.out _ HB6.out).mono ?_
            rintro e w7 ⟨rfl, rfl⟩
            go_wp2_with fail
            refine (HRe.out _ HB6.out).mono ?_
            rintro e w7 ⟨rfl, rfl⟩
            go_wp2_with fail
            refine (HK.out _ HB6.out).mono ?_
            rintro e w8 ⟨rfl, hb8⟩
            go_wp2_with fail
            go_ret
            exact ⟨rfl, HB6.out.trans (hb8.mono HB6.out.size)⟩
end Go.Proofs.YtphdpolbmjmkdaaDoor
