import Derived.Test.YtddgoncbdlhhhaaGreatR32
import Derived.Deep.RegionHeld3
/- BusPlays: each call of a machine, of bus and of the document's own, over the whole state (written by parts/gen_bpc.py). Own work. -/
namespace Go.Proofs.YtddgoncbdlhhhaaGreat
open Go.RowKit Go.Maps Go.Proofs.YtddgoncbdlhhhaaGreat.Sp Wk
section
variable {w0 w : World} {bb R : Nat} {vr vd : Value} {rs ds : List Sp} {gs : List (Nat × Nat × Nat)} {pb pv : List Ps} {H : List (Value × List Nat)} {G : List (Value × List Sp)} {i g m v : Nat} {p : Ps} {a : Nat} {n : Int}
theorem og_new {ps ps' : List (Int × Nat)} {a n : Nat} {x : Int} (hB : BusOk w0 vr vd rs ds) (ho : OffR (rs ++ ds) a n x false) (h : PgN ps ps' a n) (hp : ∀ x ∈ ps, Og (rs ++ ds) x.1) : ∀ x ∈ ps', Og (rs ++ ds) x.1 := fun y hy => by
  rcases h y.1 (List.mem_map_of_mem hy) with h | ⟨j, hj, e⟩
  · obtain ⟨z, hz, e⟩ := List.mem_map.1 h
    rw [← e]
    exact hp z hz
  · have := og_of hB.pgd _ ((ho.2 rfl).2 j hj)
    rw [e]
    rw [show (((a + j) / 4096 : Nat) : Int) = ((a : Int) + (j : Nat)) / 4096 by omega]
    exact this
theorem c_peek (h : Al w0 w bb R vr vd rs ds gs pb pv H G) (hi : gs[i]? = some (g, m, v)) (hp : pb[i]? = some p) (ha : a ≤ 18446744073709551615) (hk : p.le 4611686018427387904) : Calls Tryz.prog 21 #[.pointer (some ⟨m, 0, none⟩), .int .u64 (a : Int), .int .i64 n] w fun e w' => e = .returned (.tuple #[.int .u64 (pkV (rs ++ ds) p a n), .agg #[.int .i64 (wyA (rs ++ ds) a n), .int .u64 (adA (rs ++ ds) a n)]]) ∧ Hid (Al w0 w' bb R vr vd rs ds gs (pb.set i (pkP (rs ++ ds) p a n)) pv H G) ∧ Hid (Bt w w') := by
  cases hw : wdB n with
  | true =>
    obtain ⟨k, rfl, hk1, _⟩ := wdB_yes hw
    obtain ⟨B, V, T, hm, _, hf⟩ := h.bus1 hi hp
    refine (peek_any hm ha hk1 (by have := hk.2.2; omega)).mono ?_
    rintro e w' ⟨x, b, ho, rfl, hm', hk'⟩
    obtain ⟨h1, h2⟩ := hf w' T (pkP (rs ++ ds) p a (k : Int)) (hk'.mono (fun _ _ e => .inl e)) (by simpa [pkP, hw, offX_is ho] using hm') (Grows.refl _ _)
    refine ⟨?_, h1, h2⟩
    simp only [pkV, wyA, adA, hw, Int.toNat_natCast, offX_is ho, if_true, FaultV]
  | false =>
    refine (peekM_nw (wdB_no hw).2).mono ?_
    rintro e w' ⟨rfl, hb⟩
    obtain ⟨h1, h2⟩ := h.low hb
    refine ⟨?_, ?_, h2⟩
    · simp only [pkV, wyA, adA, hw, Bool.false_eq_true, if_false, FaultV]
    · have e : pkP (rs ++ ds) p a n = p := by simp only [pkP, hw, Bool.false_eq_true, if_false]
      rw [e, set_same hp]
      exact h1
theorem d_peek (hB : BusOk w0 vr vd rs ds) (h : Al w0 w bb R vr vd rs ds gs pb pv H G) (hi : gs[i]? = some (g, m, v)) (hp : pv[i]? = some p) (ha : a ≤ 18446744073709551615) (hk : p.le 4611686018427387904) : Calls Tryz.prog 22 #[.pointer (some ⟨v, 0, none⟩), .int .u64 (a : Int), .int .i64 n] w fun e w' => e = .returned (.tuple #[.int .u64 (pkV (rs ++ ds) p a n), .agg #[.int .i64 (wyA (rs ++ ds) a n), .int .u64 (adA (rs ++ ds) a n)]]) ∧ Hid (Al w0 w' bb R vr vd rs ds gs pb (pv.set i (pkP (rs ++ ds) p a n)) H G) ∧ Hid (Bt w w') := by
  cases hw : wdB n with
  | true =>
    obtain ⟨k, rfl, hk1, _⟩ := wdB_yes hw
    obtain ⟨base, vp, ps, hm, _, _, hg, hf⟩ := h.ref1 hi hp
    have hb0 := h.b0
    refine (rpeek_at hm hk1 (hB.r.below hb0 (Nat.le_refl _)) (hB.d.below hb0 (Nat.le_refl _)) hB.sane hB.few ha (by have := hk.2.2; omega)).mono ?_
    rintro e w' ⟨x, b, ho, rfl, hm', hk'⟩
    obtain ⟨h1, h2⟩ := hf w' vp ps (pkP (rs ++ ds) p a (k : Int)) (Kf.one hk') (by
      have : pkP (rs ++ ds) p a (k : Int) = ⟨p.M, p.L, p.S, up b p.X⟩ := by simp only [pkP, hw, Int.toNat_natCast, offX_is ho, if_true]
      rw [this]
      simpa using hm') hg
    refine ⟨?_, h1, h2⟩
    simp only [pkV, wyA, adA, hw, Int.toNat_natCast, offX_is ho, if_true, FaultV]
  | false =>
    refine (rpeek_nw (wdB_no hw).1 _).mono ?_
    rintro e w' ⟨rfl, hb⟩
    obtain ⟨h1, h2⟩ := h.low hb
    refine ⟨?_, ?_, h2⟩
    · simp only [pkV, wyA, adA, hw, Bool.false_eq_true, if_false, FaultV]
    · have e : pkP (rs ++ ds) p a n = p := by simp only [pkP, hw, Bool.false_eq_true, if_false]
      rw [e, set_same hp]
      exact h1
theorem c_load (h : Al w0 w bb R vr vd rs ds gs pb pv H G) (hi : gs[i]? = some (g, m, v)) (hp : pb[i]? = some p) (ha : a ≤ 18446744073709551615) (hk : p.le 4611686018427387904) : Calls Tryz.prog 18 #[.pointer (some ⟨m, 0, none⟩), .int .u64 (a : Int), .int .i64 n] w fun e w' => e = .returned (.tuple #[.int .u64 (pkV (rs ++ ds) p a n), .agg #[.int .i64 (wyA (rs ++ ds) a n), .int .u64 (adA (rs ++ ds) a n)]]) ∧ Hid (Al w0 w' bb R vr vd rs ds gs (pb.set i (ldP (rs ++ ds) p a n)) pv H G) ∧ Hid (Bt w w') := by
  cases hw : wdB n with
  | true =>
    obtain ⟨k, rfl, hk1, _⟩ := wdB_yes hw
    obtain ⟨B, V, T, hm, _, hf⟩ := h.bus1 hi hp
    refine (load_any hm ha hk1 (by have := hk.2.2; omega) (by have := hk.1; omega)).mono ?_
    rintro e w' ⟨x, b, ho, rfl, hm', hk'⟩
    obtain ⟨h1, h2⟩ := hf w' T (ldP (rs ++ ds) p a (k : Int)) (hk'.mono (fun _ _ e => .inl e)) (by simpa [ldP, hw, offX_is ho] using hm') (Grows.refl _ _)
    refine ⟨?_, h1, h2⟩
    simp only [pkV, wyA, adA, hw, Int.toNat_natCast, offX_is ho, if_true, FaultV]
  | false =>
    refine (loadM_nw (wdB_no hw).2).mono ?_
    rintro e w' ⟨rfl, hb⟩
    obtain ⟨h1, h2⟩ := h.low hb
    refine ⟨?_, ?_, h2⟩
    · simp only [pkV, wyA, adA, hw, Bool.false_eq_true, if_false, FaultV]
    · have e : ldP (rs ++ ds) p a n = p := by simp only [ldP, hw, Bool.false_eq_true, if_false]
      rw [e, set_same hp]
      exact h1
theorem d_load (hB : BusOk w0 vr vd rs ds) (h : Al w0 w bb R vr vd rs ds gs pb pv H G) (hi : gs[i]? = some (g, m, v)) (hp : pv[i]? = some p) (ha : a ≤ 18446744073709551615) (hk : p.le 4611686018427387904) : Calls Tryz.prog 19 #[.pointer (some ⟨v, 0, none⟩), .int .u64 (a : Int), .int .i64 n] w fun e w' => e = .returned (.tuple #[.int .u64 (pkV (rs ++ ds) p a n), .agg #[.int .i64 (wyA (rs ++ ds) a n), .int .u64 (adA (rs ++ ds) a n)]]) ∧ Hid (Al w0 w' bb R vr vd rs ds gs pb (pv.set i (ldP (rs ++ ds) p a n)) H G) ∧ Hid (Bt w w') := by
  cases hw : wdB n with
  | true =>
    obtain ⟨k, rfl, hk1, _⟩ := wdB_yes hw
    obtain ⟨base, vp, ps, hm, _, _, hg, hf⟩ := h.ref1 hi hp
    have hb0 := h.b0
    refine (rload_at hm hk1 (hB.r.below hb0 (Nat.le_refl _)) (hB.d.below hb0 (Nat.le_refl _)) hB.sane hB.few ha (by have := hk.2.2; omega) (by have := hk.1; omega)).mono ?_
    rintro e w' ⟨x, b, ho, rfl, hm', hk'⟩
    obtain ⟨h1, h2⟩ := hf w' vp ps (ldP (rs ++ ds) p a (k : Int)) (Kf.one hk') (by
      have : ldP (rs ++ ds) p a (k : Int) = ⟨p.M, up (!b) p.L, p.S, up b p.X⟩ := by simp only [ldP, hw, Int.toNat_natCast, offX_is ho, if_true]
      rw [this]
      cases b <;> simpa [up] using hm') hg
    refine ⟨?_, h1, h2⟩
    simp only [pkV, wyA, adA, hw, Int.toNat_natCast, offX_is ho, if_true, FaultV]
  | false =>
    refine (rload_nw (wdB_no hw).1 _).mono ?_
    rintro e w' ⟨rfl, hb⟩
    obtain ⟨h1, h2⟩ := h.low hb
    refine ⟨?_, ?_, h2⟩
    · simp only [pkV, wyA, adA, hw, Bool.false_eq_true, if_false, FaultV]
    · have e : ldP (rs ++ ds) p a n = p := by simp only [ldP, hw, Bool.false_eq_true, if_false]
      rw [e, set_same hp]
      exact h1
theorem c_store {val : Nat} (h : Al w0 w bb R vr vd rs ds gs pb pv H G) (hi : gs[i]? = some (g, m, v)) (hp : pb[i]? = some p) (ha : a ≤ 18446744073709551615) (hk : p.le 4611686018427387904) (hval : val ≤ 18446744073709551615) : Calls Tryz.prog 23 #[.pointer (some ⟨m, 0, none⟩), .int .u64 (a : Int), .int .i64 n, .int .u64 (val : Int)] w fun e w' => e = .returned (.agg #[.int .i64 (wyA (rs ++ ds) a n), .int .u64 (adA (rs ++ ds) a n)]) ∧ Hid (Al w0 w' bb R vr vd rs ds gs (pb.set i (stP (rs ++ ds) p a n val)) pv H G) ∧ Hid (Bt w w') := by
  cases hw : wdB n with
  | true =>
    obtain ⟨k, rfl, hk1, _⟩ := wdB_yes hw
    obtain ⟨B, V, T, hm, _, hf⟩ := h.bus1 hi hp
    refine (store_any hm ha hk1 hval (by have := hk.2.2; omega) (by have := hk.2.1; omega)).mono ?_
    rintro e w' ⟨x, b, ho, rfl, hk', hb1, hb2⟩
    have ea : .agg #[.int .i64 (wyA (rs ++ ds) a (k : Int)), .int .u64 (adA (rs ++ ds) a (k : Int))] = FaultV (if b then 30 else 0) x := by simp only [wyA, adA, hw, Int.toNat_natCast, offX_is ho, if_true, FaultV]
    rw [ea]
    cases b with
    | true =>
      have e : stP (rs ++ ds) p a (k : Int) val = ⟨p.M, p.L, p.S, p.X + 1⟩ := by simp only [stP, hw, Int.toNat_natCast, offX_is ho, if_true]
      rw [e]
      obtain ⟨h1, h2⟩ := hf w' T ⟨p.M, p.L, p.S, p.X + 1⟩ hk' (hb1 rfl) (Grows.refl _ _)
      exact ⟨rfl, h1, h2⟩
    | false =>
      obtain ⟨T', hm', hg⟩ := hb2 rfl
      have e : stP (rs ++ ds) p a (k : Int) val = ⟨putAt p.M a ((Pl.le 8 val).take k), p.L, p.S + 1, p.X⟩ := by simp only [stP, hw, Int.toNat_natCast, offX_is ho, if_true, Bool.false_eq_true, if_false]
      rw [e]
      obtain ⟨h1, h2⟩ := hf w' T' ⟨putAt p.M a ((Pl.le 8 val).take k), p.L, p.S + 1, p.X⟩ hk' hm' hg
      exact ⟨rfl, h1, h2⟩
  | false =>
    refine (storeM_nw (wdB_no hw).2).mono ?_
    rintro e w' ⟨rfl, hb⟩
    obtain ⟨h1, h2⟩ := h.low hb
    refine ⟨?_, ?_, h2⟩
    · simp only [wyA, adA, hw, Bool.false_eq_true, if_false, FaultV]
    · have e : stP (rs ++ ds) p a n val = p := by simp only [stP, hw, Bool.false_eq_true, if_false]
      rw [e, set_same hp]
      exact h1
theorem d_store {val : Nat} (hB : BusOk w0 vr vd rs ds) (h : Al w0 w bb R vr vd rs ds gs pb pv H G) (hi : gs[i]? = some (g, m, v)) (hp : pv[i]? = some p) (ha : a ≤ 18446744073709551615) (hk : p.le 4611686018427387904) : Calls Tryz.prog 24 #[.pointer (some ⟨v, 0, none⟩), .int .u64 (a : Int), .int .i64 n, .int .u64 (val : Int)] w fun e w' => e = .returned (.agg #[.int .i64 (wyA (rs ++ ds) a n), .int .u64 (adA (rs ++ ds) a n)]) ∧ Hid (Al w0 w' bb R vr vd rs ds gs pb (pv.set i (stP (rs ++ ds) p a n val)) H G) ∧ Hid (Bt w w') := by
  cases hw : wdB n with
  | true =>
    obtain ⟨k, rfl, hk1, _⟩ := wdB_yes hw
    obtain ⟨base, vp, ps, hm, hb0', hbw, hg, hf⟩ := h.ref1 hi hp
    have hb0 := h.b0
    refine (rstore_f hm hk1 hbw (hB.r.below hb0 (Nat.le_refl _)) (hB.d.below hb0 (Nat.le_refl _)) hB.sane hB.few ha (by have := hk.2.2; omega) (by have := hk.2.1; omega)).mono ?_
    rintro e w' ⟨x, b, ho, rfl, hb1, hb2⟩
    have ea : .agg #[.int .i64 (wyA (rs ++ ds) a (k : Int)), .int .u64 (adA (rs ++ ds) a (k : Int))] = FaultV (if b then 30 else 0) x := by simp only [wyA, adA, hw, Int.toNat_natCast, offX_is ho, if_true, FaultV]
    rw [ea]
    cases b with
    | true =>
      have e : stP (rs ++ ds) p a (k : Int) val = ⟨p.M, p.L, p.S, p.X + 1⟩ := by simp only [stP, hw, Int.toNat_natCast, offX_is ho, if_true]
      rw [e]
      obtain ⟨hm', hk'⟩ := hb1 rfl
      obtain ⟨h1, h2⟩ := hf w' vp ps ⟨p.M, p.L, p.S, p.X + 1⟩ hk' hm' hg
      exact ⟨rfl, h1, h2⟩
    | false =>
      obtain ⟨vp', ps', hm', hk', hn'⟩ := hb2 rfl
      have e : stP (rs ++ ds) p a (k : Int) val = ⟨putAt p.M a ((Pl.le 8 val).take k), p.L, p.S + 1, p.X⟩ := by simp only [stP, hw, Int.toNat_natCast, offX_is ho, if_true, Bool.false_eq_true, if_false]
      rw [e]
      obtain ⟨h1, h2⟩ := hf w' vp' ps' ⟨putAt p.M a ((Pl.le 8 val).take k), p.L, p.S + 1, p.X⟩ hk' hm' (og_new hB ho (fun y hy => addN_mem (hn' ▸ hy)) hg)
      exact ⟨rfl, h1, h2⟩
  | false =>
    refine (rstore_nw (wdB_no hw).1 _).mono ?_
    rintro e w' ⟨rfl, hb⟩
    obtain ⟨h1, h2⟩ := h.low hb
    refine ⟨?_, ?_, h2⟩
    · simp only [wyA, adA, hw, Bool.false_eq_true, if_false, FaultV]
    · have e : stP (rs ++ ds) p a n val = p := by simp only [stP, hw, Bool.false_eq_true, if_false]
      rw [e, set_same hp]
      exact h1
theorem c_fill {val : Nat} (h : Al w0 w bb R vr vd rs ds gs pb pv H G) (hi : gs[i]? = some (g, m, v)) (hp : pb[i]? = some p) (ha : a ≤ 18446744073709551615) (hk : p.le 4611686018427387904) (hn : n ≤ 9223372036854775807) (hval : val < 256) : Calls Tryz.prog 27 #[.pointer (some ⟨m, 0, none⟩), .int .u64 (a : Int), .int .i64 n, .int .u8 (val : Int)] w fun e w' => e = .returned (.agg #[.int .i64 (wyC (rs ++ ds) a n), .int .u64 (adC (rs ++ ds) a n)]) ∧ Hid (Al w0 w' bb R vr vd rs ds gs (pb.set i (flP (rs ++ ds) p a n (List.replicate n.toNat val))) pv H G) ∧ Hid (Bt w w') := by
  by_cases hneg : n < 0
  · refine (fillM_neg hneg).mono ?_
    rintro e w' ⟨rfl, hb⟩
    obtain ⟨h1, h2⟩ := h.low hb
    refine ⟨?_, ?_, h2⟩
    · simp only [wyC, adC, hneg, if_true, FaultV]
    · have e : flP (rs ++ ds) p a n (List.replicate n.toNat val) = p := by simp only [flP, hneg, if_true]
      rw [e, set_same hp]
      exact h1
  · obtain ⟨k, rfl⟩ : ∃ k : Nat, n = (k : Int) := ⟨n.toNat, by omega⟩
    obtain ⟨B, V, T, hm, _, hf⟩ := h.bus1 hi hp
    refine (fillM_any hm ha (by omega) hval (by have := hk.2.2; omega)).mono ?_
    rintro e w' ⟨x, b, ho, rfl, hk', hb1, hb2⟩
    have ea : .agg #[.int .i64 (wyC (rs ++ ds) a (k : Int)), .int .u64 (adC (rs ++ ds) a (k : Int))] = FaultV (if b then 30 else 0) x := by simp only [wyC, adC, hneg, Int.toNat_natCast, offX_is ho, if_false, FaultV]
    rw [ea, Int.toNat_natCast]
    cases b with
    | true =>
      have e : flP (rs ++ ds) p a (k : Int) (List.replicate k val) = ⟨p.M, p.L, p.S, p.X + 1⟩ := by simp only [flP, hneg, Int.toNat_natCast, offX_is ho, if_true, if_false]
      rw [e]
      obtain ⟨h1, h2⟩ := hf w' T ⟨p.M, p.L, p.S, p.X + 1⟩ hk' (hb1 rfl) (Grows.refl _ _)
      exact ⟨rfl, h1, h2⟩
    | false =>
      obtain ⟨T', hm', hg⟩ := hb2 rfl
      have e : flP (rs ++ ds) p a (k : Int) (List.replicate k val) = ⟨putAt p.M a (List.replicate k val), p.L, p.S, p.X⟩ := by simp only [flP, hneg, Int.toNat_natCast, offX_is ho, Bool.false_eq_true, if_false]
      rw [e]
      obtain ⟨h1, h2⟩ := hf w' T' ⟨putAt p.M a (List.replicate k val), p.L, p.S, p.X⟩ hk' hm' hg
      exact ⟨rfl, h1, h2⟩
theorem d_fill {val : Nat} (hB : BusOk w0 vr vd rs ds) (h : Al w0 w bb R vr vd rs ds gs pb pv H G) (hi : gs[i]? = some (g, m, v)) (hp : pv[i]? = some p) (ha : a ≤ 18446744073709551615) (hk : p.le 4611686018427387904) (hn : n ≤ 9223372036854775807) (hval : val < 256) : Calls Tryz.prog 28 #[.pointer (some ⟨v, 0, none⟩), .int .u64 (a : Int), .int .i64 n, .int .u8 (val : Int)] w fun e w' => e = .returned (.agg #[.int .i64 (wyC (rs ++ ds) a n), .int .u64 (adC (rs ++ ds) a n)]) ∧ Hid (Al w0 w' bb R vr vd rs ds gs pb (pv.set i (flP (rs ++ ds) p a n (List.replicate n.toNat val))) H G) ∧ Hid (Bt w w') := by
  by_cases hneg : n < 0
  · refine (rfill_neg hneg _).mono ?_
    rintro e w' ⟨rfl, hb⟩
    obtain ⟨h1, h2⟩ := h.low hb
    refine ⟨?_, ?_, h2⟩
    · simp only [wyC, adC, hneg, if_true, FaultV]
    · have e : flP (rs ++ ds) p a n (List.replicate n.toNat val) = p := by simp only [flP, hneg, if_true]
      rw [e, set_same hp]
      exact h1
  · obtain ⟨k, rfl⟩ : ∃ k : Nat, n = (k : Int) := ⟨n.toNat, by omega⟩
    obtain ⟨base, vp, ps, hm, hb0', hbw, hg, hf⟩ := h.ref1 hi hp
    have hb0 := h.b0
    refine (rfill_n hm hbw hval (by omega) (hB.r.below hb0 (Nat.le_refl _)) (hB.d.below hb0 (Nat.le_refl _)) hB.sane hB.few ha (by have := hk.2.2; omega)).mono ?_
    rintro e w' ⟨x, b, ho, rfl, hb1, hb2⟩
    have ea : .agg #[.int .i64 (wyC (rs ++ ds) a (k : Int)), .int .u64 (adC (rs ++ ds) a (k : Int))] = FaultV (if b then 30 else 0) x := by simp only [wyC, adC, hneg, Int.toNat_natCast, offX_is ho, if_false, FaultV]
    rw [ea, Int.toNat_natCast]
    cases b with
    | true =>
      have e : flP (rs ++ ds) p a (k : Int) (List.replicate k val) = ⟨p.M, p.L, p.S, p.X + 1⟩ := by simp only [flP, hneg, Int.toNat_natCast, offX_is ho, if_true, if_false]
      rw [e]
      obtain ⟨hm', hk'⟩ := hb1 rfl
      obtain ⟨h1, h2⟩ := hf w' vp ps ⟨p.M, p.L, p.S, p.X + 1⟩ (Kf.one hk') hm' hg
      exact ⟨rfl, h1, h2⟩
    | false =>
      obtain ⟨vp', ps', hm', hk', hn'⟩ := hb2 rfl
      have e : flP (rs ++ ds) p a (k : Int) (List.replicate k val) = ⟨putAt p.M a (List.replicate k val), p.L, p.S, p.X⟩ := by simp only [flP, hneg, Int.toNat_natCast, offX_is ho, Bool.false_eq_true, if_false]
      rw [e]
      obtain ⟨h1, h2⟩ := hf w' vp' ps' ⟨putAt p.M a (List.replicate k val), p.L, p.S, p.X⟩ hk' hm' (og_new hB ho hn' hg)
      exact ⟨rfl, h1, h2⟩
/-- Write of a row that is handed in: xs are its first bytes; H holds the row -/
theorem c_write {ao : Option Addr} {cap : Nat} {zs : List Nat} (h : Al w0 w bb R vr vd rs ds gs pb pv H G) (hi : gs[i]? = some (g, m, v)) (hp : pb[i]? = some p) (ha : a ≤ 18446744073709551615) (hk : p.le 4611686018427387904) (hs : Sl w (.slice ao zs.length cap) zs) (hf0 : 0 < zs.length → ∃ x ∈ H, x.1.ownBlock = (Value.slice ao zs.length cap).ownBlock) (hl : zs.length ≤ 2147483647) : Calls Tryz.prog 57 #[.pointer (some ⟨m, 0, none⟩), .int .u64 (a : Int), .slice ao zs.length cap] w fun e w' => e = .returned (.agg #[.int .i64 (wyC (rs ++ ds) a (zs.length : Int)), .int .u64 (adC (rs ++ ds) a (zs.length : Int))]) ∧ Hid (Al w0 w' bb R vr vd rs ds gs (pb.set i (flP (rs ++ ds) p a (zs.length : Int) zs)) pv H G) ∧ Hid (Bt w w') := by
  have hneg : ¬ ((zs.length : Nat) : Int) < 0 := by omega
  obtain ⟨B, V, T, hm, hnm, hf⟩ := h.bus1 hi hp
  refine (writeM_any hm ha (by omega) rfl hs (fun h0 j e => ?_) (by have := hk.2.2; omega)).mono ?_
  · obtain ⟨x, hx, e'⟩ := hf0 h0
    exact hnm x hx j (e'.trans e)
  rintro e w' ⟨x, b, ho, rfl, hk', hb1, hb2⟩
  have ea : .agg #[.int .i64 (wyC (rs ++ ds) a (zs.length : Int)), .int .u64 (adC (rs ++ ds) a (zs.length : Int))] = FaultV (if b then 30 else 0) x := by simp only [wyC, adC, hneg, Int.toNat_natCast, offX_is ho, if_false, FaultV]
  rw [ea]
  cases b with
  | true =>
    have e : flP (rs ++ ds) p a (zs.length : Int) zs = ⟨p.M, p.L, p.S, p.X + 1⟩ := by simp only [flP, hneg, Int.toNat_natCast, offX_is ho, if_true, if_false]
    rw [e]
    obtain ⟨h1, h2⟩ := hf w' T ⟨p.M, p.L, p.S, p.X + 1⟩ hk' (hb1 rfl) (Grows.refl _ _)
    exact ⟨rfl, h1, h2⟩
  | false =>
    obtain ⟨T', hm', hg⟩ := hb2 rfl
    have e : flP (rs ++ ds) p a (zs.length : Int) zs = ⟨putAt p.M a zs, p.L, p.S, p.X⟩ := by simp only [flP, hneg, Int.toNat_natCast, offX_is ho, Bool.false_eq_true, if_false]
    rw [e]
    obtain ⟨h1, h2⟩ := hf w' T' ⟨putAt p.M a zs, p.L, p.S, p.X⟩ hk' hm' hg
    exact ⟨rfl, h1, h2⟩
theorem d_write {ao : Option Addr} {cap : Nat} {zs : List Nat} (hB : BusOk w0 vr vd rs ds) (h : Al w0 w bb R vr vd rs ds gs pb pv H G) (hi : gs[i]? = some (g, m, v)) (hp : pv[i]? = some p) (ha : a ≤ 18446744073709551615) (hk : p.le 4611686018427387904) (hcap : zs.length ≤ cap) (hz : ∀ z ∈ zs, z < 256) (hrow : 0 < zs.length → ∃ gb off, ao = some ⟨gb, off, none⟩ ∧ gb < w0.heap.size ∧ P8o w gb off zs.length (fun i => zs.getD i 0)) (hl : zs.length ≤ 2147483647) : Calls Tryz.prog 59 #[.pointer (some ⟨v, 0, none⟩), .int .u64 (a : Int), .slice ao zs.length cap] w fun e w' => e = .returned (.agg #[.int .i64 (wyC (rs ++ ds) a (zs.length : Int)), .int .u64 (adC (rs ++ ds) a (zs.length : Int))]) ∧ Hid (Al w0 w' bb R vr vd rs ds gs pb (pv.set i (flP (rs ++ ds) p a (zs.length : Int) zs)) H G) ∧ Hid (Bt w w') := by
  have hneg : ¬ ((zs.length : Nat) : Int) < 0 := by omega
  obtain ⟨base, vp, ps, hm, hb0', hbw, hg, hf⟩ := h.ref1 hi hp
  have hb0 := h.b0
  refine (rwrite_n hm rfl hz hcap (fun h0 => ?_) (by omega) (hB.r.below hb0 (Nat.le_refl _)) (hB.d.below hb0 (Nat.le_refl _)) hB.sane hB.few ha (by have := hk.2.2; omega)).mono ?_
  · obtain ⟨gb, off, e, h1, h2⟩ := hrow h0
    exact ⟨gb, off, e, by omega, h2⟩
  rintro e w' ⟨x, b, ho, rfl, hb1, hb2⟩
  have ea : .agg #[.int .i64 (wyC (rs ++ ds) a (zs.length : Int)), .int .u64 (adC (rs ++ ds) a (zs.length : Int))] = FaultV (if b then 30 else 0) x := by simp only [wyC, adC, hneg, Int.toNat_natCast, offX_is ho, if_false, FaultV]
  rw [ea]
  cases b with
  | true =>
    have e : flP (rs ++ ds) p a (zs.length : Int) zs = ⟨p.M, p.L, p.S, p.X + 1⟩ := by simp only [flP, hneg, Int.toNat_natCast, offX_is ho, if_true, if_false]
    rw [e]
    obtain ⟨hm', hk'⟩ := hb1 rfl
    obtain ⟨h1, h2⟩ := hf w' vp ps ⟨p.M, p.L, p.S, p.X + 1⟩ (Kf.one hk') hm' hg
    exact ⟨rfl, h1, h2⟩
  | false =>
    obtain ⟨vp', ps', hm', hk', hn'⟩ := hb2 rfl
    have e : flP (rs ++ ds) p a (zs.length : Int) zs = ⟨putAt p.M a zs, p.L, p.S, p.X⟩ := by simp only [flP, hneg, Int.toNat_natCast, offX_is ho, Bool.false_eq_true, if_false]
    rw [e]
    obtain ⟨h1, h2⟩ := hf w' vp' ps' ⟨putAt p.M a zs, p.L, p.S, p.X⟩ hk' hm' (og_new hB ho hn' hg)
    exact ⟨rfl, h1, h2⟩
end
end Go.Proofs.YtddgoncbdlhhhaaGreat
/- BusPlays: lists that are handed out, and kept; clones. Own work. -/
namespace Go.Proofs.YtddgoncbdlhhhaaGreat
open Go.RowKit Go.Maps Go.Proofs.YtddgoncbdlhhhaaGreat.Sp Wk
section
variable {w0 w w' : World} {bb R : Nat} {vr vd : Value} {rs ds : List Sp} {col : Nat → Nat} {gs : List (Nat × Nat × Nat)} {bs : List BSt} {vs : List VSt} {H : List (Value × List Nat)} {G : List (Value × List Sp)} {sv lv wv : Value} {hd : Int} {lr wr : Value} {hd2 : Int} {E : List Ent} {F : List EntG} {pb pv : List Ps} {i g m v : Nat} {p : Ps} {a : Nat} {n : Int}
theorem AlI.blk_lt (h : AlI w0 w bb R vr vd rs ds col gs bs vs H G sv lv wv hd lr wr hd2 E F) : ∀ k ∈ blks E, k < w.heap.size := blks_lt h.bk.ents
theorem AlI.blkG_lt (h : AlI w0 w bb R vr vd rs ds col gs bs vs H G sv lv wv hd lr wr hd2 E F) : ∀ k ∈ blksG F, k < w.heap.size := blksG_lt h.bg.ents
/-- a new list of bytes is handed out -/
theorem AlI.hand (h : AlI w0 w bb R vr vd rs ds col gs bs vs H G sv lv wv hd lr wr hd2 E F) {x : Value} {xs : List Nat} (ho : Own w bb x xs) (hx : ∀ z ∈ xs, z < 256) (hl : xs.length ≤ 1099511627776) (hc : ∀ k, x.ownBlock = some k → col k = 1 ∧ k ∉ blks E) : AlI w0 w bb R vr vd rs ds col gs bs vs ((x, xs) :: H) G sv lv wv hd lr wr hd2 E F :=
  ⟨h.below, h.bbl, h.sg, h.bus, h.rf, h.lb, h.lf, h.bk, h.bg, h.e4, h.ce, h.srow, fun y hy => (List.mem_cons.1 hy).elim (fun e => by subst e; exact ⟨ho, hx, hl, hc⟩) (fun hy => h.hh y hy), h.gg, h.gn⟩
theorem AlI.drop (h : AlI w0 w bb R vr vd rs ds col gs bs vs H G sv lv wv hd lr wr hd2 E F) {H' : List (Value × List Nat)} (hs : ∀ x ∈ H', x ∈ H) : AlI w0 w bb R vr vd rs ds col gs bs vs H' G sv lv wv hd lr wr hd2 E F :=
  ⟨h.below, h.bbl, h.sg, h.bus, h.rf, h.lb, h.lf, h.bk, h.bg, h.e4, h.ce, h.srow, fun y hy => h.hh y (hs y hy), h.gg, h.gn⟩
theorem Al.drop (h : Al w0 w bb R vr vd rs ds gs pb pv H G) {H' : List (Value × List Nat)} (hs : ∀ x ∈ H', x ∈ H) : Al w0 w bb R vr vd rs ds gs pb pv H' G := by
  obtain ⟨col, bs, vs, sv, lv, wv, hd, lr, wr, hd2, E, F, h, e1, e2⟩ := h
  exact ⟨col, bs, vs, sv, lv, wv, hd, lr, wr, hd2, E, F, h.drop hs, e1, e2⟩
theorem Al.own (h : Al w0 w bb R vr vd rs ds gs pb pv H G) {x : Value × List Nat} (hx : x ∈ H) : Own w bb x.1 x.2 ∧ ∀ z ∈ x.2, z < 256 := by
  obtain ⟨col, bs, vs, sv, lv, wv, hd, lr, wr, hd2, E, F, h, e1, e2⟩ := h
  exact ⟨(h.hh x hx).1, (h.hh x hx).2.1⟩
theorem Al.ownG (h : Al w0 w bb R vr vd rs ds gs pb pv H G) {x : Value × List Sp} (hx : x ∈ G) : OwnRg w bb x.1 x.2 := by
  obtain ⟨col, bs, vs, sv, lv, wv, hd, lr, wr, hd2, E, F, h, e1, e2⟩ := h
  exact (h.gg x hx).1
/-- a machine of bus is read: its meter alone may change; what is new may be handed out -/
theorem AlI.busR {b : BSt} {p' : Ps} (h : AlI w0 w bb R vr vd rs ds col gs bs vs H G sv lv wv hd lr wr hd2 E F) (hb : bs[i]? = some b) (k : Keeps (fun j => j = b.m) w w') (hm : Mac w' b.m b.B b.V b.T p'.M rs ds p'.L p'.S p'.X) :
    AlI w0 w' bb R vr vd rs ds (rc col w.heap.size 1) gs (bs.set i ⟨b.m, b.B, b.V, b.T, p'⟩) vs H G sv lv wv hd lr wr hd2 E F ∧ Bt w w' := by
  have hB := h.bus i b hb
  have hz : ∀ j, j < w.heap.size → (j = b.m) → Zt w j := fun j _ hj => hB.zt (.inl hj)
  obtain ⟨f1, f2, f3, f4, f5, f6, f7, f8, f9, f10⟩ := h.frame (c := 2 * i + 10) k hz (fun j _ hj => (hB.own j (.inl hj)).1) (by omega) (fun j hj => (hB.own j (.inl hj)).2) (col' := rc col w.heap.size 1) (fun _ h => rc_old h)
  refine ⟨⟨f1, h.bbl, f2, fun q b' e => ?_, fun q v e => f4 q v e (by omega), ?_, h.lf, f5, f6, h.e4, f7, f8, f9, f10, h.gn⟩, Bt.of k hz⟩
  · rcases set_get e with ⟨rfl, rfl⟩ | ⟨hne, e⟩
    · refine ⟨hm, fun j hj => ?_, fun v hv j e' => ?_⟩
      · rw [rc_old (hB.mac.mine_lt (hj.elim .inl (fun q => .inr (.inl q))))]
        exact hB.own j hj
      · have hl := hB.mac.mine_lt (.inr (.inr ⟨v, hv, e'⟩))
        rw [rc_old hl]
        refine (hB.rows v hv j e').imp id (fun ⟨cur, q⟩ => ⟨cur, (k.block j hl (fun hZ => ?_)).trans q⟩)
        rcases hz j hl hZ _ _ _ q with q | q | q | q | q <;> exact absurd q (by decide)
    · exact f3 q b' e (by omega)
  · rw [map_set BSt.m bs i b ⟨b.m, b.B, b.V, b.T, p'⟩ hb rfl]
    exact h.lb
theorem RowT.own {w : World} {g n bb : Nat} {zs : List Nat} (h : RowT w 5 g zs) (hn : zs.length = n) (hb : bb ≤ g) (hm : n ≤ maxLen) : Own w bb (.slice (some ⟨g, 0, none⟩) n n) zs := by
  subst hn
  exact ⟨by simp [bvs], .inr ⟨g, zs.length, _, rfl, hb, h, Nat.le_refl _, hm, by simp [bvs], by rw [Nat.mul_one]; exact List.take_of_length_le (by simp [bvs])⟩⟩
theorem Own.nilB (w : World) (bb : Nat) : Own w bb (.slice none 0 0) [] := ⟨rfl, .inl ⟨rfl, rfl⟩⟩
theorem bytesAt_lt {M : Nat → Nat} (h : ∀ p, M p < 256) (a n : Nat) : ∀ z ∈ bytesAt M a n, z < 256 := fun z hz => by
  obtain ⟨j, _, rfl⟩ := List.mem_map.1 hz
  exact h _
/-- Read of bus: the list is handed out -/
theorem c_read (h : Al w0 w bb R vr vd rs ds gs pb pv H G) (hi : gs[i]? = some (g, m, v)) (hp : pb[i]? = some p) (ha : a ≤ 18446744073709551615) (hk : p.le 4611686018427387904) (hn : n ≤ 9223372036854775807) : Calls Tryz.prog 33 #[.pointer (some ⟨m, 0, none⟩), .int .u64 (a : Int), .int .i64 n] w fun e w' => ∃ la ln lc, e = .returned (.tuple #[.slice la ln lc, .agg #[.int .i64 (wyC (rs ++ ds) a n), .int .u64 (adC (rs ++ ds) a n)]]) ∧ Hid (Al w0 w' bb R vr vd rs ds gs (pb.set i (rdP (rs ++ ds) p a n)) pv ((.slice la ln lc, rdL (rs ++ ds) p a n) :: H) G) ∧ Hid (Bt w w') := by
  by_cases hneg : n < 0
  · refine (readM_neg hneg).mono ?_
    rintro e w' ⟨rfl, hb⟩
    obtain ⟨h1, h2⟩ := h.low hb
    refine ⟨none, 0, 0, ?_, ?_, h2⟩
    · simp only [wyC, adC, hneg, if_true, FaultV]
    · have e : rdP (rs ++ ds) p a n = p := by simp only [rdP, hneg, if_true]
      have e' : rdL (rs ++ ds) p a n = [] := by simp only [rdL, hneg, if_true]
      rw [e, e', set_same hp]
      obtain ⟨col, bs, vs, sv, lv, wv, hd, lr, wr, hd2, E, F, h1, e1, e2⟩ := h1
      exact ⟨col, bs, vs, sv, lv, wv, hd, lr, wr, hd2, E, F, h1.hand (Own.nilB _ _) (fun _ h => by cases h) (by simp) (fun k e => by cases e), e1, e2⟩
  · obtain ⟨k, rfl⟩ : ∃ k : Nat, n = (k : Int) := ⟨n.toNat, by omega⟩
    obtain ⟨col, bs, vs, sv, lv, wv, hd, lr, wr, hd2, E, F, h, e1, e2⟩ := h
    obtain ⟨b, hb, rfl, rfl⟩ := get_bs h.lb e1 hi hp
    have hB := h.bus i b hb
    refine (readM_any hB.mac ha (by omega) (by have := hk.2.2; omega)).mono ?_
    rintro e w' ⟨x, bo, sl, ho, rfl, hm', hk', hs1, hs2⟩
    have e3 : rdP (rs ++ ds) b.p a (k : Int) = ⟨b.p.M, b.p.L, b.p.S, up bo b.p.X⟩ := by simp only [rdP, hneg, Int.toNat_natCast, offX_is ho, if_false]
    obtain ⟨h1, h2⟩ := h.busR (p' := ⟨b.p.M, b.p.L, b.p.S, up bo b.p.X⟩) hb hk' hm'
    have hsm : ∀ q, b.p.M q < 256 := hB.mac.held.2.2.2.2.1
    rw [e3]
    have ea : .agg #[.int .i64 (wyC (rs ++ ds) a (k : Int)), .int .u64 (adC (rs ++ ds) a (k : Int))] = FaultV (if bo then 30 else 0) x := by simp only [wyC, adC, hneg, Int.toNat_natCast, offX_is ho, if_false, FaultV]
    rw [ea]
    have e4 : (bs.set i ⟨b.m, b.B, b.V, b.T, ⟨b.p.M, b.p.L, b.p.S, up bo b.p.X⟩⟩).map BSt.p = pb.set i ⟨b.p.M, b.p.L, b.p.S, up bo b.p.X⟩ := by rw [← e1, List.map_set]
    cases bo with
    | true =>
      obtain rfl := hs1 rfl
      have e5 : rdL (rs ++ ds) b.p a (k : Int) = [] := by simp only [rdL, hneg, Int.toNat_natCast, offX_is ho, if_false, if_true]
      rw [e5]
      exact ⟨none, 0, 0, rfl, ⟨_, _, vs, sv, lv, wv, hd, lr, wr, hd2, E, F, h1.hand (Own.nilB _ _) (fun _ h => by cases h) (by simp) (fun k e => by cases e), e4, e2⟩, h2⟩
    | false =>
      obtain ⟨gg, rfl, hgg, hn40, hrow⟩ := hs2 rfl
      have e5 : rdL (rs ++ ds) b.p a (k : Int) = bytesAt b.p.M a k := by simp only [rdL, hneg, Int.toNat_natCast, offX_is ho, if_false, Bool.false_eq_true]
      rw [e5]
      have hbb : bb ≤ gg := by have := h.R_lt; have := h.bbl.2; omega
      refine ⟨_, _, _, rfl, ⟨_, _, vs, sv, lv, wv, hd, lr, wr, hd2, E, F, h1.hand (hrow.own (bytesAt_length _ _ _) hbb (by unfold maxLen; omega)) (bytesAt_lt hsm _ _) (by rw [bytesAt_length]; exact hn40) (fun q e => ?_), e4, e2⟩, h2⟩
      cases e
      exact ⟨rc_new hgg, fun hq => absurd (h.blk_lt _ hq) (by show ¬ gg < _; omega)⟩
theorem p8_sl {w : World} {g n : Nat} {M : Nat → Nat} {a : Nat} (h : P8 w g n (fun i => M (a + i))) (hM : ∀ p, M p < 256) (hm : n ≤ maxLen) : Sl w (.slice (some ⟨g, 0, none⟩) n n) (bytesAt M a n) := by
  refine ⟨some ⟨g, 0, none⟩, n, by rw [bytesAt_length], by rw [bytesAt_length]; exact Nat.le_refl _, hm, bytesAt_lt hM _ _, fun e => (by cases e), fun j hj => ⟨g, 0, rfl, ?_⟩⟩
  rw [bytesAt_length] at hj
  rw [Nat.zero_add, h.cell j hj, List.getD_eq_getElem?_getD, bytesAt_get M a n j hj]
  rfl
theorem sl_nil (w : World) : Sl w (.slice none 0 0) [] := ⟨none, 0, rfl, Nat.le_refl _, Nat.zero_le _, fun _ h => (by cases h), fun _ => rfl, fun i hi => by simp at hi⟩
/-- Read of the document's own machine -/
theorem d_read (hB : BusOk w0 vr vd rs ds) (h : Al w0 w bb R vr vd rs ds gs pb pv H G) (hi : gs[i]? = some (g, m, v)) (hp : pv[i]? = some p) (ha : a ≤ 18446744073709551615) (hk : p.le 4611686018427387904) (hn : n ≤ 9223372036854775807) : Calls Tryz.prog 55 #[.pointer (some ⟨v, 0, none⟩), .int .u64 (a : Int), .int .i64 n] w fun e w' => ∃ la ln lc, e = .returned (.tuple #[.slice la ln lc, .agg #[.int .i64 (wyC (rs ++ ds) a n), .int .u64 (adC (rs ++ ds) a n)]]) ∧ Hid (Al w0 w' bb R vr vd rs ds gs pb (pv.set i (rdP (rs ++ ds) p a n)) H G) ∧ Hid (Bt w w') ∧ Hid (Sl w' (.slice la ln lc) (rdL (rs ++ ds) p a n) ∧ ∀ k, (Value.slice la ln lc).ownBlock = some k → w.heap.size ≤ k) := by
  by_cases hneg : n < 0
  · refine (rread_neg hneg _).mono ?_
    rintro e w' ⟨rfl, hb⟩
    obtain ⟨h1, h2⟩ := h.low hb
    have e3 : rdP (rs ++ ds) p a n = p := by simp only [rdP, hneg, if_true]
    have e4 : rdL (rs ++ ds) p a n = [] := by simp only [rdL, hneg, if_true]
    refine ⟨none, 0, 0, ?_, ?_, h2, ?_⟩
    · simp only [wyC, adC, hneg, if_true, FaultV]
    · rw [e3, set_same hp]
      exact h1
    · rw [e4]
      exact ⟨sl_nil _, fun k e => by cases e⟩
  · obtain ⟨k, rfl⟩ : ∃ k : Nat, n = (k : Int) := ⟨n.toNat, by omega⟩
    obtain ⟨base, vp, ps, hm, hb0', hbw, hg, hf⟩ := h.ref1 hi hp
    have hb0 := h.b0
    refine (rread_n hm (by omega) (hB.r.below hb0 (Nat.le_refl _)) (hB.d.below hb0 (Nat.le_refl _)) hB.sane hB.few ha (by have := hk.2.2; omega)).mono ?_
    rintro e w' ⟨x, b, sl, ho, rfl, hm', hk', hs1, hs2⟩
    have e3 : rdP (rs ++ ds) p a (k : Int) = ⟨p.M, p.L, p.S, up b p.X⟩ := by simp only [rdP, hneg, Int.toNat_natCast, offX_is ho, if_false]
    obtain ⟨h1, h2⟩ := hf w' vp ps ⟨p.M, p.L, p.S, up b p.X⟩ (Kf.one hk') hm' hg
    rw [e3]
    have ea : .agg #[.int .i64 (wyC (rs ++ ds) a (k : Int)), .int .u64 (adC (rs ++ ds) a (k : Int))] = FaultV (if b then 30 else 0) x := by simp only [wyC, adC, hneg, Int.toNat_natCast, offX_is ho, if_false, FaultV]
    rw [ea]
    cases b with
    | true =>
      obtain rfl := hs1 rfl
      have e5 : rdL (rs ++ ds) p a (k : Int) = [] := by simp only [rdL, hneg, Int.toNat_natCast, offX_is ho, if_false, if_true]
      rw [e5]
      exact ⟨none, 0, 0, rfl, h1, h2, sl_nil _, fun k e => by cases e⟩
    | false =>
      obtain ⟨gg, rfl, hgg, hrow⟩ := hs2 rfl
      have e5 : rdL (rs ++ ds) p a (k : Int) = bytesAt p.M a k := by simp only [rdL, hneg, Int.toNat_natCast, offX_is ho, if_false, Bool.false_eq_true]
      rw [e5]
      have hkm : k ≤ maxLen := by
        by_cases h0 : 0 < k
        · obtain ⟨m, rfl⟩ : ∃ m, k = m + 1 := ⟨k - 1, by omega⟩
          obtain ⟨r, hr, h3, h4⟩ := (ho.2 rfl).2 m (by omega)
          have := hB.sane r hr
          unfold maxLen
          omega
        · unfold maxLen
          omega
      exact ⟨_, _, _, rfl, h1, h2, p8_sl hrow hm.2.2.2.2.2.2.1 hkm, fun k e => by cases e; exact hgg⟩
theorem ke_tag {j : Nat} (hR : ∃ c, w.heap[R]? = some (.cells c 48 (0, 0))) {c : Array Value} {t : TypeId} {fr : Nat × Nat} (hj : w.heap[j]? = some (.cells c t fr)) (h1 : t ≠ 48) (h2 : t ≠ 27) : ¬ KeS bb R w j := by
  rintro (rfl | ⟨_, cur, hc⟩)
  · obtain ⟨c', hc⟩ := hR
    rw [hc] at hj
    cases hj
    exact h1 rfl
  · rw [hc] at hj
    cases hj
    exact h2 rfl
theorem keG_tag {j : Nat} (hR : ∃ c, w.heap[R]? = some (.cells c 48 (0, 0))) {c : Array Value} {t : TypeId} {fr : Nat × Nat} (hj : w.heap[j]? = some (.cells c t fr)) (h1 : t ≠ 48) (h2 : t ≠ 22) : ¬ KeSG bb R w j := by
  rintro (rfl | ⟨_, cur, hc⟩)
  · obtain ⟨c', hc⟩ := hR
    rw [hc] at hj
    cases hj
    exact h1 rfl
  · rw [hc] at hj
    cases hj
    exact h2 rfl
/-- a book's call: all that is no book's is as it was -/
theorem AlI.kept {Z : Nat → Prop} (h : AlI w0 w bb R vr vd rs ds col gs bs vs H G sv lv wv hd lr wr hd2 E F) (k : Keeps Z w w') (hz : ∀ j, Z j → j = R ∨ (bb ≤ j ∧ ∃ cur t, w.heap[j]? = some (.cells cur t (0, 0)) ∧ (t = 27 ∨ t = 22 ∨ t = 35))) {col' : Nat → Nat} (hcol : ∀ j, j < w.heap.size → col' j = col j) :
    Below w0.heap.size w0 w' ∧ (∀ (i g m v : Nat), gs[i]? = some (g, m, v) → w'.heap[g]? = some (.cells #[.pointer (some ⟨m, 0, none⟩), .pointer (some ⟨v, 0, none⟩)] 39 (0, 0))) ∧ (∀ i b, bs[i]? = some b → Bs w' w0.heap.size bb rs ds col' i b) ∧ (∀ i v, vs[i]? = some v → Vs w' w0.heap.size vr vd rs ds col' i v) ∧ (∀ v xs, Own w bb v xs → Own w' bb v xs) ∧ (∀ v xs, OwnRg w bb v xs → OwnRg w' bb v xs) ∧ Bt w w' := by
  have tg : ∀ (j : Nat) (cur : Array Value) (t : TypeId) (fr : Nat × Nat), w.heap[j]? = some (.cells cur t fr) → t ≠ 48 → t ≠ 27 → t ≠ 22 → t ≠ 35 → ¬ Z j := fun j cur t fr hj h1 h2 h3 h4 hZ => by
    rcases hz j hZ with rfl | ⟨_, c, t', hc, ht⟩
    · rw [h.bk.blk] at hj
      cases hj
      exact h1 rfl
    · rw [hc] at hj
      cases hj
      rcases ht with ht | ht | ht
      · exact h2 ht
      · exact h3 ht
      · exact h4 ht
  have zt : ∀ j, Zt w j → ¬ Z j := fun j hj hZ => by
    rcases hz j hZ with rfl | ⟨_, c, t', hc, ht⟩
    · rcases hj _ _ _ h.bk.blk with q | q | q | q | q <;> exact absurd q (by decide)
    · rcases hj _ _ _ hc with rfl | rfl | rfl | rfl | rfl <;> rcases ht with q | q | q <;> exact absurd q (by decide)
  refine ⟨h.below.trans (k.below h.below.size (fun j _ hZ => ?_)), fun i g m v e => ?_, fun i b e => ?_, fun i v e => ?_, fun v xs ho => ho.keeps k (fun j e => ?_), fun v xs ho => ho.keeps k (fun j e => ?_), ⟨k.size, fun g c t fr hc ht => ?_⟩⟩
  · have := h.bbl
    rcases hz j hZ with rfl | ⟨h1, _⟩ <;> omega
  · have := h.sg i g m v e
    exact (k.block g (Array.getElem?_eq_some_iff.1 this).1 (tg g _ _ _ this (by decide) (by decide) (by decide) (by decide))).trans this
  · refine Mac.keepsW (h.bus i b e) k (fun j hj => zt j ((h.bus i b e).zt hj)) (fun j hl q hZ => ?_) (fun j cur hj => tg j cur _ _ hj (by decide) (by decide) (by decide) (by decide)) hcol
    have := h.bbl
    rcases hz j hZ with rfl | ⟨h1, _⟩ <;> omega
  · exact (h.rf i v e).keepsW k (fun j hj => zt j ((h.rf i v e).zt hj)) hcol
  · obtain ⟨cur, q⟩ := ho.tagB j e
    exact tg j cur _ _ q (by decide) (by decide) (by decide) (by decide)
  · obtain ⟨cur, q⟩ := ho.tag j e
    exact tg j cur _ _ q (by decide) (by decide) (by decide) (by decide)
  · obtain ⟨_, _, _, _, _, h6, h7, h8, h9⟩ := ht
    exact (k.block g (Array.getElem?_eq_some_iff.1 hc).1 (tg g c t fr hc h6 h7 h8 h9)).trans hc
/-- the list that was handed out is kept -/
theorem k_bytes {la : Option Addr} {ln lc : Nat} {xs : List Nat} (h : Al w0 w bb R vr vd rs ds gs pb pv [(.slice la ln lc, xs)] G) : Calls Tryz.prog 35 #[.pointer (some ⟨R, 1, none⟩), .slice la ln lc] w fun e w' => e = .returned (.tuple #[]) ∧ Hid (Al w0 w' bb R vr vd rs ds gs pb pv [] G) ∧ Hid (Bt w w') := by
  obtain ⟨col, bs, vs, sv, lv, wv, hd, lr, wr, hd2, E, F, h, e1, e2⟩ := h
  obtain ⟨ho, hsm, hlen, hc⟩ := h.hh _ (List.mem_singleton.2 rfl)
  refine (bk_keep h.bk ho (by show xs.length ≤ _; have : xs.length ≤ 1099511627776 := hlen; omega) hsm h.e4.1 (Nat.le_trans h.bbl.2 (Nat.le_of_lt h.R_lt)) (fun k e => (hc k e).2)).mono ?_
  rintro e w' ⟨rfl, lv', wv', hd', E', hb', hl', hs', hk'⟩
  obtain ⟨f1, f2, f3, f4, f6, f7, f8⟩ := h.kept hk' (fun j hj => by
    rcases hj with hj | ⟨h1, cur, h2⟩
    · exact .inl hj
    · exact .inr ⟨h1, cur, _, h2, .inl rfl⟩) (col' := rc col w.heap.size 1) (fun _ h => rc_old h)
  have hR : ∃ c, w.heap[R]? = some (.cells c 48 (0, 0)) := ⟨_, h.bk.blk⟩
  refine ⟨rfl, ⟨rc col w.heap.size 1, bs, vs, sv, lv', wv', hd', lr, wr, hd2, E', F, ⟨f1, h.bbl, f2, f3, f4, h.lb, h.lf, hb', ⟨hb'.blk, h.bg.lrow.keeps hk' (fun j e => ?_), h.bg.wrow.keeps hk' (fun j e => ?_), h.bg.ne, fun x hx => ⟨f7 _ _ (h.bg.ents x hx).l, f7 _ _ (h.bg.ents x hx).w, (h.bg.ents x hx).sm⟩, h.bg.nodup⟩, ⟨hl', h.e4.2⟩, fun k hk => ?_, h.srow.keeps hk' (fun j e => ?_), fun x hx => (by cases hx), fun x hx => ⟨f7 _ _ (h.gg x hx).1, (h.gg x hx).2⟩, h.gn⟩, e1, e2⟩, f8⟩
  · obtain ⟨cur, q⟩ := h.bg.lrow.tag j e
    exact ke_tag hR q (by decide) (by decide)
  · obtain ⟨cur, q⟩ := h.bg.wrow.tag j e
    exact ke_tag hR q (by decide) (by decide)
  · rcases hs' k hk with q | q | q
    · rw [rc_old (h.blk_lt k q)]
      exact h.ce k q
    · rw [rc_old (ho.lt k q).2]
      exact (hc k q).1
    · exact rc_new q
  · obtain ⟨cur, q⟩ := h.srow.tag j e
    exact ke_tag hR q (by decide) (by decide)
/-- a list of ranges that was handed out is kept -/
theorem k_ranges {la : Option Addr} {ln lc : Nat} {xs : List Sp} (h : Al w0 w bb R vr vd rs ds gs pb pv [] ((.slice la ln lc, xs) :: G)) : Calls Tryz.prog 66 #[.pointer (some ⟨R, 5, none⟩), .slice la ln lc] w fun e w' => e = .returned (.tuple #[]) ∧ Hid (Al w0 w' bb R vr vd rs ds gs pb pv [] G) ∧ Hid (Bt w w') := by
  obtain ⟨col, bs, vs, sv, lv, wv, hd, lr, wr, hd2, E, F, h, e1, e2⟩ := h
  obtain ⟨ho, hlen, hc⟩ := h.gg _ (List.mem_cons_self)
  have hsm : SmG xs := ⟨by have : xs.length ≤ 64 := hlen; omega, trivial⟩
  refine (bkG_keep h.bg ho hsm hsm h.e4.2 (Nat.le_trans h.bbl.2 (Nat.le_of_lt h.R_lt)) hc).mono ?_
  rintro e w' ⟨rfl, lr', wr', hd', F', hb', hl', hs', hk'⟩
  obtain ⟨f1, f2, f3, f4, f6, f7, f8⟩ := h.kept hk' (fun j hj => by
    rcases hj with hj | ⟨h1, cur, h2⟩
    · exact .inl hj
    · exact .inr ⟨h1, cur, _, h2, .inr (.inl rfl)⟩) (col' := rc col w.heap.size 1) (fun _ h => rc_old h)
  have hR : ∃ c, w.heap[R]? = some (.cells c 48 (0, 0)) := ⟨_, h.bk.blk⟩
  have hpw := List.pairwise_cons.1 h.gn
  refine ⟨rfl, ⟨rc col w.heap.size 1, bs, vs, sv, lv, wv, hd, lr', wr', hd', E, F', ⟨f1, h.bbl, f2, f3, f4, h.lb, h.lf, ⟨hb'.blk, h.bk.lrow.keeps hk' (fun j e => ?_), h.bk.wrow.keeps hk' (fun j e => ?_), h.bk.ne, fun x hx => ⟨f6 _ _ (h.bk.ents x hx).l, f6 _ _ (h.bk.ents x hx).w, (h.bk.ents x hx).sm⟩, h.bk.nodup⟩, hb', ⟨h.e4.1, hl'⟩, fun k hk => ?_, h.srow.keeps hk' (fun j e => ?_), fun x hx => (by cases hx), fun x hx => ⟨f7 _ _ (h.gg x (List.mem_cons_of_mem _ hx)).1, (h.gg x (List.mem_cons_of_mem _ hx)).2.1, fun k e hk => ?_⟩, hpw.2⟩, e1, e2⟩, f8⟩
  · obtain ⟨cur, q⟩ := h.bk.lrow.tag j e
    exact keG_tag hR q (by decide) (by decide)
  · obtain ⟨cur, q⟩ := h.bk.wrow.tag j e
    exact keG_tag hR q (by decide) (by decide)
  · rw [rc_old (h.blk_lt k hk)]
    exact h.ce k hk
  · obtain ⟨cur, q⟩ := h.srow.tag j e
    exact keG_tag hR q (by decide) (by decide)
  · obtain ⟨g1, _, g3⟩ := h.gg x (List.mem_cons_of_mem _ hx)
    rcases hs' k hk with q | q | q
    · exact g3 k e q
    · exact hpw.1 x hx k q e
    · have := (g1.lt k e).2
      omega
/-- Bus of a machine: two lists are handed out -/
theorem c_bus (hB : BusOk w0 vr vd rs ds) (h : Al w0 w bb R vr vd rs ds gs pb pv H []) (hi : gs[i]? = some (g, m, v)) (hp : pb[i]? = some p) : Calls Tryz.prog 64 #[.pointer (some ⟨m, 0, none⟩)] w fun e w' => ∃ a n c a2 n2 c2, e = .returned (.agg #[.slice a n c, .slice a2 n2 c2]) ∧ Hid (Al w0 w' bb R vr vd rs ds gs pb pv H [(.slice a n c, rs), (.slice a2 n2 c2, ds)]) ∧ Hid (Bt w w') := by
  have hfew := hB.few
  obtain ⟨B, V, T, hm, _, _⟩ := h.bus1 hi hp
  refine (bus_o hm (by omega) (by omega)).mono ?_
  rintro e w' ⟨a, n, c, a2, n2, c2, rfl, hb, hs⟩
  obtain ⟨s1, s2, s3⟩ := hs.out
  obtain ⟨col, bs, vs, sv, lv, wv, hd, lr, wr, hd2, E, F, h, e1, e2⟩ := h
  obtain ⟨h1, h2⟩ := h.low hb.out (col' := col) (fun _ _ => rfl)
  have hbb : bb ≤ w.heap.size := Nat.le_trans h.bbl.2 (Nat.le_of_lt h.R_lt)
  refine ⟨a, n, c, a2, n2, c2, rfl, ⟨_, bs, vs, sv, lv, wv, hd, lr, wr, hd2, E, F, ⟨h1.below, h1.bbl, h1.sg, h1.bus, h1.rf, h1.lb, h1.lf, h1.bk, h1.bg, h1.e4, h1.ce, h1.srow, h1.hh, fun x hx => ?_, ?_⟩, e1, e2⟩, h2⟩
  · simp only [List.mem_cons, List.not_mem_nil, or_false] at hx
    rcases hx with rfl | rfl
    · exact ⟨s1.weak hbb, by show rs.length ≤ 64; omega, fun k e hk => by have := h.blkG_lt k hk; have := (s1.lt k e).1; omega⟩
    · exact ⟨s2.weak hbb, by show ds.length ≤ 64; omega, fun k e hk => by have := h.blkG_lt k hk; have := (s2.lt k e).1; omega⟩
  · refine List.pairwise_cons.2 ⟨fun y hy k e => ?_, List.pairwise_singleton _ _⟩
    obtain rfl := List.mem_singleton.1 hy
    exact s3 k e
end
end Go.Proofs.YtddgoncbdlhhhaaGreat
/- BusPlays: two faults are the same; the meters. Own work. -/
namespace Go.Proofs.YtddgoncbdlhhhaaGreat
open Go.RowKit Go.Maps Go.Proofs.YtddgoncbdlhhhaaGreat.Sp Wk
set_option maxRecDepth 100000 in
set_option maxHeartbeats 4000000 in
theorem same_one (a b : Int) (w : World) : Calls Tryz.prog 20 #[.agg #[.int .i64 a, .int .u64 b], .agg #[.int .i64 a, .int .u64 b]] w fun e w' => e = .returned (.bool true) ∧ Below w.heap.size w w' := by
  obtain ⟨W1, hW1⟩ : ∃ W1, (w.alloc (Obj.cells #[.int .i64 a, .int .u64 b] 71)).alloc (Obj.cells #[.int .i64 a, .int .u64 b] 75) = W1 := ⟨_, rfl⟩
  have hb1 : Below w.heap.size w W1 := hW1 ▸ ((Below.refl _ _).alloc (Nat.le_refl _) _).alloc (by simp) _
  have hf : BoxF W1 w.heap.size a b := hW1 ▸ (BoxF.new w a b).below ((Below.refl _ _).alloc (Nat.le_refl _) _)
  have hg : BoxG W1 (w.heap.size + 1) a b := by
    have := BoxG.new (w.alloc (Obj.cells #[.int .i64 a, .int .u64 b] 71)) a b
    rw [hW1] at this
    simpa using this
  obtain ⟨x0, x1, _, _⟩ := hf.cells
  obtain ⟨y0, y1, _, _⟩ := hg.cells
  have HB1 := Lib.hid hb1
  clear hb1 hf hg
  go_enter Tryz.func20, Tryz.ntmps20
  go_wp2_with fail
  go_ret
  exact ⟨rfl, HB1.out⟩
set_option maxRecDepth 100000 in
set_option maxHeartbeats 8000000 in
theorem meter_any {w : World} {g m v B : Nat} {V : Value × Value × Value} {T : Nat → Option Nat} {M : Nat → Nat} {rs ds : List Sp} {vr vd vp : Value} {L S X : Nat} (hs : w.heap[g]? = some (.cells #[.pointer (some ⟨m, 0, none⟩), .pointer (some ⟨v, 0, none⟩)] 39 (0, 0))) (hm : Mac w m B V T M rs ds L S X) (hr : RBox w v vr vd vp L S X) : Calls Tryz.prog 30 #[.pointer (some ⟨g, 0, none⟩)] w fun e w' => e = .returned (.bool true) ∧ Below w.heap.size w w' := by
  have HL : Hid (Calls Tryz.prog 69 #[.pointer (some ⟨m, 0, none⟩)] w.drew fun e w' => e = .returned (.int .i64 (L : Int)) ∧ w' = w.drew) := loads_any (w := w.drew) hm
  have HS : Hid (Calls Tryz.prog 70 #[.pointer (some ⟨m, 0, none⟩)] w.drew fun e w' => e = .returned (.int .i64 (S : Int)) ∧ w' = w.drew) := stores_any (w := w.drew) hm
  have HX : Hid (Calls Tryz.prog 71 #[.pointer (some ⟨m, 0, none⟩)] w.drew fun e w' => e = .returned (.int .i64 (X : Int)) ∧ w' = w.drew) := strays_any (w := w.drew) hm
  obtain ⟨_, _, _, r3, r4, r5⟩ := hr.cells
  have s0 : w.cell? ⟨g, 0, none⟩ = some (.pointer (some ⟨m, 0, none⟩)) := by rw [cell_of_row _ _ _ _ _ _ hs]; rfl
  have s1 : w.cell? ⟨g, 1, none⟩ = some (.pointer (some ⟨v, 0, none⟩)) := by rw [cell_of_row _ _ _ _ _ _ hs]; rfl
  clear hs hm hr
  go_enter Tryz.func30, Tryz.ntmps30
  go_wp2_with fail
  go_region_held3 (fun w' => w' = w.drew) (rfl) (first | (go_at_call 69; refine HL.out.mono ?_; rintro e w' ⟨rfl, hw⟩; subst hw) | (go_at_call 70; refine HS.out.mono ?_; rintro e w' ⟨rfl, hw⟩; subst hw) | (go_at_call 71; refine HX.out.mono ?_; rintro e w' ⟨rfl, hw⟩; subst hw))
  all_goals
    go_wp2_with fail
    go_ret
    exact ⟨rfl, (Below.refl _ _).drew⟩
end Go.Proofs.YtddgoncbdlhhhaaGreat
