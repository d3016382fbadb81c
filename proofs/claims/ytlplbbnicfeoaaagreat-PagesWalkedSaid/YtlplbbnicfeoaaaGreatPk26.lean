import Derived.Test.YtlplbbnicfeoaaaGreatPk20
import Derived.Test.YtlplbbnicfeoaaaGreatPk25
import Derived.Test.YtlplbbnicfeoaaaGreatPk18
import Derived.Test.YtlplbbnicfeoaaaGreatPk19
/- off: the first byte of an access that is off the bus. Own work. -/
namespace Go.Proofs.YtlplbbnicfeoaaaGreat
open Go.RowKit Go.Maps Go.Proofs.YtlplbbnicfeoaaaGreat.Sp
def OffR (rs : List Sp) (a n : Nat) (x : Int) (b : Bool) : Prop :=
  (b = true → ∃ i : Nat, i < n ∧ x = (a : Int) + i ∧ (a : Int) + i ≤ 18446744073709551615 ∧ ¬ On rs ((a : Int) + i) ∧ ∀ j : Nat, j < i → On rs ((a : Int) + j)) ∧
  (b = false → x = 0 ∧ ∀ i : Nat, i < n → On rs ((a : Int) + i))
def LastR (a n : Nat) (last : Int) : Prop := (a : Int) ≤ last ∧ last ≤ 18446744073709551615 ∧ (last = a + ((n : Int) - 1) ∨ (last = 18446744073709551615 ∧ 18446744073709551615 < (a : Int) + ((n : Int) - 1)))
theorem off_none {rs : List Sp} {G : List Sp} {a n : Nat} {last : Int} (hc : Canon 18446744073709551615 G) (hi : ∀ p, In p G ↔ On rs p) (hs : Sane rs) (hok : LastR a n last) (h : coversB G ((a : Int), last) = true) : OffR rs a n 0 false := by
  refine ⟨fun h => (by cases h), fun _ => ⟨rfl, fun i hi' => ?_⟩⟩
  have hcov := (coversB_iff hc ((a : Int), last)).1 h
  obtain ⟨h0, h1, hl | ⟨hl, hov⟩⟩ := hok
  · exact (hi _).1 (hcov _ (by show (a : Int) ≤ _; omega) (by show _ ≤ last; omega))
  · exfalso
    obtain ⟨r, hr, h1, h2⟩ := (hi _).1 (hcov 18446744073709551615 (by show (a : Int) ≤ _; omega) (by show _ ≤ last; omega))
    have := hs r hr
    omega
theorem off_some {rs : List Sp} {G ts us : List Sp} {a n : Nat} {last x : Int} {b : Bool} (hc : Canon 18446744073709551615 G) (hi : ∀ p, In p G ↔ On rs p) (hok : LastR a n last) (h : coversB G ((a : Int), last) = false)
    (ht : OfR 18446744073709551615 [((a : Int), last)] ts) (hu : Made 18446744073709551615 (fun a b => a && !b) ts G us) (hcu : Canon 18446744073709551615 us) (hx : nextB a us = (x, b)) : OffR rs a n x b := by
  have hin : ∀ p, In p us ↔ ((a : Int) ≤ p ∧ p ≤ last) ∧ ¬ In p G := fun p => by
    rw [hu.less ht.1 p, ht.2.1 p, in_one]
  cases b with
  | false =>
    exfalso
    obtain ⟨_, hno⟩ := nextB_none hcu hx
    have : coversB G ((a : Int), last) = true := (coversB_iff hc _).2 fun p h1 h2 => by
      by_cases hp : In p G
      · exact hp
      · exact absurd ((hin p).2 ⟨⟨h1, h2⟩, hp⟩) (hno p h1)
    rw [this] at h
    cases h
  | true =>
    obtain ⟨h1, h2, h3⟩ := nextB_some hcu hx
    obtain ⟨⟨_, h4⟩, h5⟩ := (hin x).1 h2
    obtain ⟨l0, l1, hl⟩ := hok
    refine ⟨fun _ => ⟨(x - a).toNat, by omega, by omega, by omega, ?_, fun j hj => ?_⟩, fun h => by cases h⟩
    · rw [show (a : Int) + ((x - a).toNat : Nat) = x by omega]
      exact fun ho => h5 ((hi x).2 ho)
    · have := h3 ((a : Int) + j) (by omega) (by omega)
      by_cases hp : In ((a : Int) + j) G
      · exact (hi _).1 hp
      · exact absurd ((hin _).2 ⟨⟨by omega, by omega⟩, hp⟩) this
theorem cells3b {w w' : World} {p q r : Addr} {x y z : Value} (hb : Below w.heap.size w w') (h1 : w.cell? p = some x) (h2 : w.cell? q = some y) (h3 : w.cell? r = some z) : w'.cell? p = some x ∧ w'.cell? q = some y ∧ w'.cell? r = some z :=
  ⟨(hb.cell (World.block_lt_of_cell? w _ h1)).trans h1, (hb.cell (World.block_lt_of_cell? w _ h2)).trans h2, (hb.cell (World.block_lt_of_cell? w _ h3)).trans h3⟩
theorem cells3 {w w' : World} {p q r : Addr} {x y z : Value} (hb : Below w.drew.heap.size w.drew w') (h1 : w.cell? p = some x) (h2 : w.cell? q = some y) (h3 : w.cell? r = some z) : w'.cell? p = some x ∧ w'.cell? q = some y ∧ w'.cell? r = some z :=
  ⟨(hb.cell (World.block_lt_of_cell? w _ h1)).trans h1, (hb.cell (World.block_lt_of_cell? w _ h2)).trans h2, (hb.cell (World.block_lt_of_cell? w _ h3)).trans h3⟩
set_option maxRecDepth 100000 in
set_option maxHeartbeats 4000000 in
theorem off_any {w : World} {m B : Nat} {V : Value × Value × Value} {T : Nat → Option Nat} {M : Nat → Nat} {rs ds : List Sp} {L S X a n : Nat} (h : Mac w m B V T M rs ds L S X) (ha : a ≤ 18446744073709551615) (hn : n ≤ 9223372036854775807) :
    Calls Tryz.prog 88 #[.pointer (some ⟨m, 0, none⟩), .int .u64 (a : Int), .int .i64 (n : Int)] w fun e w' => ∃ x b, e = .returned (.tuple #[.int .u64 x, .bool b]) ∧ OffR (rs ++ ds) a n x b ∧ Below w.heap.size w w' := by
  obtain ⟨vr, vd, vg⟩ := V
  obtain ⟨G, h0, h1, h2, h3, h4, h5, h6, h7, h8, h9, h10⟩ := h
  simp only at h0 h1 h2 h3
  have c5 : w.cell? ⟨m, 5, none⟩ = some vg := by rw [cell_of_row w m _ _ _ _ h0]; rfl
  have HV : Hid (U64.SV w vg G) := h3
  have HC : Hid (Canon 18446744073709551615 G) := h4
  have HI : Hid (∀ p, In p G ↔ On (rs ++ ds) p) := h5
  have HS : Hid (Sane (rs ++ ds)) := h6
  have HL : Hid (G.length ≤ 64) := h7
  clear h0 h1 h2 h3 h4 h5 h6 h7 h8 h9 h10
  by_cases h0 : n = 0
  · subst h0
    go_enter Tryz.func88, Tryz.ntmps88
    go_wp2_with fail
    go_ret2
    exact ⟨0, false, rfl, ⟨fun h => (by cases h), fun _ => ⟨rfl, fun i hi => absurd hi (Nat.not_lt_zero _)⟩⟩, Below.refl _ _⟩
  · obtain ⟨last, okb, hadd, hl0, hl1, hok⟩ : ∃ (last : Int) (okb : Bool), U64.addB a ((n : Int) - 1) = (if okb then last else 0, okb) ∧ (a : Int) ≤ last ∧ last ≤ 18446744073709551615 ∧ ((okb = true ∧ last = a + ((n : Int) - 1)) ∨ (okb = false ∧ last = 18446744073709551615 ∧ 18446744073709551615 < (a : Int) + ((n : Int) - 1))) := by
      by_cases hov : (a : Int) + ((n : Int) - 1) ≤ 18446744073709551615
      · exact ⟨a + ((n : Int) - 1), true, if_pos hov, by omega, hov, .inl ⟨rfl, rfl⟩⟩
      · exact ⟨18446744073709551615, false, if_neg hov, by omega, by omega, .inr ⟨rfl, rfl, by omega⟩⟩
    have hlr : LastR a n last := ⟨hl0, hl1, hok.elim (fun h => .inl h.2) (fun h => .inr h.2)⟩
    have HNo : Hid (coversB G ((a : Int), last) = true → OffR (rs ++ ds) a n 0 false) := off_none HC.out HI.out HS.out hlr
    have HSo : Hid (∀ ts us x b, coversB G ((a : Int), last) = false → OfR 18446744073709551615 [((a : Int), last)] ts → Made 18446744073709551615 (fun a b => a && !b) ts G us → Canon 18446744073709551615 us → nextB a us = (x, b) → OffR (rs ++ ds) a n x b) := fun ts us x b h1 h2 h3 h4 h5 => off_some HC.out HI.out hlr h1 h2 h3 h4 h5
    have HOf : Hid (∀ W g, W.cell? ⟨g, 0, none⟩ = some (.int .u64 (a : Int)) → W.cell? ⟨g, 1, none⟩ = some (.int .u64 last) → Calls Tryz.prog 40 #[.slice (some ⟨g, 0, none⟩) 1 1] W fun e w' => ∃ a2 n2 c2, e = .returned (.agg #[.slice a2 n2 c2]) ∧ Below W.heap.size W w' ∧ Hid (∃ ts, U64.SV w' (.slice a2 n2 c2) ts ∧ OfR 18446744073709551615 [((a : Int), last)] ts)) := fun W g d0 d1 => by
      refine (U64.of_any (U64.one_sv (x := ((a : Int), last)) d0 d1) (fun y hy => by simp at hy; subst hy; omega) (by simp)).mono ?_
      rintro e w2 ⟨v2, ts, rfl, ho, hr, hb2⟩
      obtain ⟨a2, n2, c2, hv⟩ : ∃ a n c, v2 = .slice a n c := by
        obtain ⟨a, c, e, _⟩ := ho.sv
        exact ⟨a, _, c, e⟩
      subst hv
      exact ⟨a2, n2, c2, rfl, hb2, ts, ho.sv, hr⟩
    clear hlr
    have HLs : Hid (∀ w3 a2 n2 c2, Below w.heap.size w w3 → (∃ ts, U64.SV w3 (.slice a2 n2 c2) ts ∧ OfR 18446744073709551615 [((a : Int), last)] ts) → Calls Tryz.prog 105 #[.agg #[.slice a2 n2 c2], .agg #[vg]] w3 fun e w4 => ∃ a3 n3 c3, e = .returned (.agg #[.slice a3 n3 c3]) ∧ Below w3.heap.size w3 w4 ∧ Hid (∃ ts us, U64.SV w4 (.slice a3 n3 c3) us ∧ OfR 18446744073709551615 [((a : Int), last)] ts ∧ Made 18446744073709551615 (fun a b => a && !b) ts G us)) := fun w3 a2 n2 c2 hb3 ⟨ts, h1, h2⟩ => by
      refine (U64.less_any h1 (HV.out.below hb3 (Nat.le_refl _)) h2.1 HC.out (by have := h2.2.2; have := HL.out; simp at *; omega)).mono ?_
      rintro e w4 ⟨v4, us, rfl, ho, hm, hb4⟩
      obtain ⟨a3, n3, c3, hv⟩ : ∃ a n c, v4 = .slice a n c := by
        obtain ⟨a, c, e, _⟩ := ho.sv
        exact ⟨a, _, c, e⟩
      subst hv
      exact ⟨a3, n3, c3, rfl, hb4, ts, us, ho.sv, h2, hm⟩
    have HNx : Hid (coversB G ((a : Int), last) = false → ∀ w4 a3 n3 c3, (∃ ts us, U64.SV w4 (.slice a3 n3 c3) us ∧ OfR 18446744073709551615 [((a : Int), last)] ts ∧ Made 18446744073709551615 (fun a b => a && !b) ts G us) → Calls Tryz.prog 91 #[.agg #[.slice a3 n3 c3], .int .u64 (a : Int)] w4 fun e w5 => ∃ x b, e = .returned (.tuple #[.int .u64 x, .bool b]) ∧ Below w4.heap.size w4 w5 ∧ Hid (OffR (rs ++ ds) a n x b)) := fun hcv w4 a3 n3 c3 ⟨ts, us, h1, h2, h3⟩ => by
      refine (U64.next_any h1 h3.1 (by have k1 : ts.length ≤ 1 := h2.2.2; have k2 := h3.2.2; have k3 := HL.out; omega)).mono ?_
      rintro e w5 ⟨rfl, hb5⟩
      exact ⟨_, _, rfl, hb5, HSo.out ts us _ _ hcv h2 h3 h3.1 rfl⟩
    have HA : Hid (∀ W, Calls Tryz.prog 32 #[.int .u64 (a : Int), .int .u64 ((n : Int) - 1)] W fun e w' => e = .returned (.tuple #[.int .u64 (if okb then last else 0), .bool okb]) ∧ w' = W) := fun W => by
      have := U64.add_any (a := a) (b := (n : Int) - 1) (by omega) (by omega) W
      rw [hadd] at this
      exact this
    have hw1 : IntKind.u64.wrap ((n : Int) - 1) = (n : Int) - 1 := U64.wrap_in (by omega) (by omega)
    have HW : Hid (∃ W1, w.alloc (Obj.cells #[.int .u64 (a : Int), .int .u64 last] 132) = W1 ∧ Below w.heap.size w W1 ∧ W1.cell? ⟨m, 5, none⟩ = some vg ∧ W1.cell? ⟨w.heap.size, 0, none⟩ = some (.int .u64 (a : Int)) ∧ W1.cell? ⟨w.heap.size, 1, none⟩ = some (.int .u64 last) ∧ w.heap.size + 1 = W1.heap.size) := by
      refine ⟨_, rfl, (Below.refl _ _).alloc (Nat.le_refl _) _, U64.cell_alloc' _ c5, ?_, ?_, by simp⟩
      · exact (U64.new2 rfl _ _ _).1
      · exact (U64.new2 rfl _ _ _).2
    have HCov : Hid (∀ W, Below w.heap.size w W → Calls Tryz.prog 104 #[.agg #[vg], .agg #[.int .u64 (a : Int), .int .u64 last]] W fun e w' => e = .returned (.bool (coversB G ((a : Int), last))) ∧ Below W.heap.size W w') := fun W hW => U64.covers_any (x := ((a : Int), last)) (HV.out.below hW (Nat.le_refl _)) HC.out (by have := HL.out; omega)
    obtain ⟨cb, hcb⟩ : ∃ cb, cb = coversB G ((a : Int), last) := ⟨_, rfl⟩
    rw [← hcb] at HCov
    have HCb : Hid (cb = coversB G ((a : Int), last)) := hcb
    clear hadd hcb c5
    rcases hok with ⟨rfl, hlast⟩ | ⟨rfl, hlast, _⟩
    · clear hlast
      simp only [if_true] at HA
      cases cb with
      | true =>
        go_enter Tryz.func88, Tryz.ntmps88
        go_wp2_with (first | (go_at_call 32; refine (HA.out _).mono ?_; rintro e w' ⟨rfl, hw'⟩; have hw' := hw'.symm; subst hw'))
        obtain ⟨W1, hW1, HB1, c5, a0, a1, hz1⟩ := HW.out
        rw [hW1]
        clear hW1
        have HB1' : Hid (Below w.heap.size w W1) := HB1
        clear HB1
        go_region_held3 (fun w' => w'.cell? ⟨m, 5, none⟩ = some vg ∧ w'.cell? ⟨w.heap.size, 0, none⟩ = some (.int .u64 (a : Int)) ∧ w'.cell? ⟨w.heap.size, 1, none⟩ = some (.int .u64 last)) (go_keep) (first | (go_at_call 104; refine (HCov.out _ HB1'.out.drew).mono ?_; rintro e w2 ⟨rfl, hb2⟩; have HB2 : Hid (Below w.heap.size w w2) := HB1'.out.drew.trans (hb2.mono HB1'.out.size); obtain ⟨b5, b0, b1⟩ : w2.cell? ⟨m, 5, none⟩ = some vg ∧ w2.cell? ⟨w.heap.size, 0, none⟩ = some (.int .u64 (a : Int)) ∧ w2.cell? ⟨w.heap.size, 1, none⟩ = some (.int .u64 last) := cells3 hb2 c5 a0 a1; clear hb2))
        go_wp2_with fail
        go_ret2
        exact ⟨0, false, rfl, HNo.out HCb.out.symm, HB2.out⟩
      | false =>
        go_enter Tryz.func88, Tryz.ntmps88
        go_wp2_with (first | (go_at_call 32; refine (HA.out _).mono ?_; rintro e w' ⟨rfl, hw'⟩; have hw' := hw'.symm; subst hw'))
        obtain ⟨W1, hW1, HB1, c5, a0, a1, hz1⟩ := HW.out
        rw [hW1]
        clear hW1
        have HB1' : Hid (Below w.heap.size w W1) := HB1
        clear HB1
        go_region_held3 (fun w' => w'.cell? ⟨m, 5, none⟩ = some vg ∧ w'.cell? ⟨w.heap.size, 0, none⟩ = some (.int .u64 (a : Int)) ∧ w'.cell? ⟨w.heap.size, 1, none⟩ = some (.int .u64 last)) (go_keep) (first | (go_at_call 104; refine (HCov.out _ HB1'.out.drew).mono ?_; rintro e w2 ⟨rfl, hb2⟩; have HB2 : Hid (Below w.heap.size w w2) := HB1'.out.drew.trans (hb2.mono HB1'.out.size); obtain ⟨b5, b0, b1⟩ : w2.cell? ⟨m, 5, none⟩ = some vg ∧ w2.cell? ⟨w.heap.size, 0, none⟩ = some (.int .u64 (a : Int)) ∧ w2.cell? ⟨w.heap.size, 1, none⟩ = some (.int .u64 last) := cells3 hb2 c5 a0 a1; clear hb2))
        clear c5 a0 a1
        have HNx2 := HNx.out HCb.out.symm
        have HNx3 : Hid (∀ w4 a3 n3 c3, (∃ ts us, U64.SV w4 (.slice a3 n3 c3) us ∧ OfR 18446744073709551615 [((a : Int), last)] ts ∧ Made 18446744073709551615 (fun a b => a && !b) ts G us) → Calls Tryz.prog 91 #[.agg #[.slice a3 n3 c3], .int .u64 (a : Int)] w4 fun e w5 => ∃ x b, e = .returned (.tuple #[.int .u64 x, .bool b]) ∧ Below w4.heap.size w4 w5 ∧ Hid (OffR (rs ++ ds) a n x b)) := HNx2
        clear HNx2
        have HOf2 : Hid (Calls Tryz.prog 40 #[.slice (some ⟨w2.heap.size, 0, none⟩) 1 1] (w2.drew.alloc (Obj.cells #[.int .u64 (a : Int), .int .u64 last] 132)) fun e w3 => ∃ a2 n2 c2, e = .returned (.agg #[.slice a2 n2 c2]) ∧ (w3.cell? ⟨m, 5, none⟩ = some vg ∧ w3.cell? ⟨w.heap.size, 0, none⟩ = some (.int .u64 (a : Int)) ∧ w3.cell? ⟨w.heap.size, 1, none⟩ = some (.int .u64 last)) ∧ Hid (Below w.heap.size w w3) ∧ Hid (∃ ts, U64.SV w3 (.slice a2 n2 c2) ts ∧ OfR 18446744073709551615 [((a : Int), last)] ts)) := by
          refine (HOf.out _ _ (U64.new2 (W := w2.drew) rfl _ _ _).1 (U64.new2 (W := w2.drew) rfl _ _ _).2).mono ?_
          rintro e w3 ⟨a2, n2, c2, rfl, hb3, h3⟩
          have hba : Below w2.drew.heap.size w2.drew w3 := ((Below.refl _ _).alloc (Nat.le_refl _) _).trans (hb3.mono (by simp))
          exact ⟨a2, n2, c2, rfl, cells3 hba b5 b0 b1, HB2.out.drew.trans (hba.mono HB2.out.size), h3⟩
        go_wp2_with fail
        go_region_held3 (fun w' => w'.cell? ⟨m, 5, none⟩ = some vg ∧ w'.cell? ⟨w.heap.size, 0, none⟩ = some (.int .u64 (a : Int)) ∧ w'.cell? ⟨w.heap.size, 1, none⟩ = some (.int .u64 last)) (go_keep) (first | (go_at_call 40; refine HOf2.out.mono ?_; rintro e w3 ⟨a2, n2, c2, rfl, ⟨d5, d0, d1⟩, HB3, HT3⟩) | (go_at_call 105; refine (HLs.out _ _ _ _ HB3.out HT3.out).mono ?_; rintro e w4 ⟨a3, n3, c3, rfl, hb4, HT4⟩; have HB4 : Hid (Below w.heap.size w w4) := HB3.out.trans (hb4.mono HB3.out.size); obtain ⟨f5, f0, f1⟩ := cells3b hb4 d5 d0 d1; clear hb4) | (go_at_call 91; refine (HNx3.out _ _ _ _ HT4.out).mono ?_; rintro e w5 ⟨x, b, rfl, hb5, HO5⟩; have HB5 : Hid (Below w.heap.size w w5) := HB4.out.trans (hb5.mono HB4.out.size); obtain ⟨e5, e0, e1⟩ := cells3b hb5 f5 f0 f1; clear hb5))
        go_wp2_with fail
        go_ret2
        exact ⟨x, b, rfl, HO5.out, HB5.out⟩
    · subst hlast
      simp only [Bool.false_eq_true, if_false] at HA
      cases cb with
      | true =>
        go_enter Tryz.func88, Tryz.ntmps88
        go_wp2_with (first | (go_at_call 32; refine (HA.out _).mono ?_; rintro e w' ⟨rfl, hw'⟩; have hw' := hw'.symm; subst hw'))
        obtain ⟨W1, hW1, HB1, c5, a0, a1, hz1⟩ := HW.out
        rw [hW1]
        clear hW1
        have HB1' : Hid (Below w.heap.size w W1) := HB1
        clear HB1
        go_region_held3 (fun w' => w'.cell? ⟨m, 5, none⟩ = some vg ∧ w'.cell? ⟨w.heap.size, 0, none⟩ = some (.int .u64 (a : Int)) ∧ w'.cell? ⟨w.heap.size, 1, none⟩ = some (.int .u64 18446744073709551615)) (go_keep) (first | (go_at_call 104; refine (HCov.out _ HB1'.out.drew).mono ?_; rintro e w2 ⟨rfl, hb2⟩; have HB2 : Hid (Below w.heap.size w w2) := HB1'.out.drew.trans (hb2.mono HB1'.out.size); obtain ⟨b5, b0, b1⟩ : w2.cell? ⟨m, 5, none⟩ = some vg ∧ w2.cell? ⟨w.heap.size, 0, none⟩ = some (.int .u64 (a : Int)) ∧ w2.cell? ⟨w.heap.size, 1, none⟩ = some (.int .u64 18446744073709551615) := cells3 hb2 c5 a0 a1; clear hb2))
        go_wp2_with fail
        go_ret2
        exact ⟨0, false, rfl, HNo.out HCb.out.symm, HB2.out⟩
      | false =>
        go_enter Tryz.func88, Tryz.ntmps88
        go_wp2_with (first | (go_at_call 32; refine (HA.out _).mono ?_; rintro e w' ⟨rfl, hw'⟩; have hw' := hw'.symm; subst hw'))
        obtain ⟨W1, hW1, HB1, c5, a0, a1, hz1⟩ := HW.out
        rw [hW1]
        clear hW1
        have HB1' : Hid (Below w.heap.size w W1) := HB1
        clear HB1
        go_region_held3 (fun w' => w'.cell? ⟨m, 5, none⟩ = some vg ∧ w'.cell? ⟨w.heap.size, 0, none⟩ = some (.int .u64 (a : Int)) ∧ w'.cell? ⟨w.heap.size, 1, none⟩ = some (.int .u64 18446744073709551615)) (go_keep) (first | (go_at_call 104; refine (HCov.out _ HB1'.out.drew).mono ?_; rintro e w2 ⟨rfl, hb2⟩; have HB2 : Hid (Below w.heap.size w w2) := HB1'.out.drew.trans (hb2.mono HB1'.out.size); obtain ⟨b5, b0, b1⟩ : w2.cell? ⟨m, 5, none⟩ = some vg ∧ w2.cell? ⟨w.heap.size, 0, none⟩ = some (.int .u64 (a : Int)) ∧ w2.cell? ⟨w.heap.size, 1, none⟩ = some (.int .u64 18446744073709551615) := cells3 hb2 c5 a0 a1; clear hb2))
        clear c5 a0 a1
        have HNx2 := HNx.out HCb.out.symm
        have HNx3 : Hid (∀ w4 a3 n3 c3, (∃ ts us, U64.SV w4 (.slice a3 n3 c3) us ∧ OfR 18446744073709551615 [((a : Int), 18446744073709551615)] ts ∧ Made 18446744073709551615 (fun a b => a && !b) ts G us) → Calls Tryz.prog 91 #[.agg #[.slice a3 n3 c3], .int .u64 (a : Int)] w4 fun e w5 => ∃ x b, e = .returned (.tuple #[.int .u64 x, .bool b]) ∧ Below w4.heap.size w4 w5 ∧ Hid (OffR (rs ++ ds) a n x b)) := HNx2
        clear HNx2
        have HOf2 : Hid (Calls Tryz.prog 40 #[.slice (some ⟨w2.heap.size, 0, none⟩) 1 1] (w2.drew.alloc (Obj.cells #[.int .u64 (a : Int), .int .u64 18446744073709551615] 132)) fun e w3 => ∃ a2 n2 c2, e = .returned (.agg #[.slice a2 n2 c2]) ∧ (w3.cell? ⟨m, 5, none⟩ = some vg ∧ w3.cell? ⟨w.heap.size, 0, none⟩ = some (.int .u64 (a : Int)) ∧ w3.cell? ⟨w.heap.size, 1, none⟩ = some (.int .u64 18446744073709551615)) ∧ Hid (Below w.heap.size w w3) ∧ Hid (∃ ts, U64.SV w3 (.slice a2 n2 c2) ts ∧ OfR 18446744073709551615 [((a : Int), 18446744073709551615)] ts)) := by
          refine (HOf.out _ _ (U64.new2 (W := w2.drew) rfl _ _ _).1 (U64.new2 (W := w2.drew) rfl _ _ _).2).mono ?_
          rintro e w3 ⟨a2, n2, c2, rfl, hb3, h3⟩
          have hba : Below w2.drew.heap.size w2.drew w3 := ((Below.refl _ _).alloc (Nat.le_refl _) _).trans (hb3.mono (by simp))
          exact ⟨a2, n2, c2, rfl, cells3 hba b5 b0 b1, HB2.out.drew.trans (hba.mono HB2.out.size), h3⟩
        go_wp2_with fail
        go_region_held3 (fun w' => w'.cell? ⟨m, 5, none⟩ = some vg ∧ w'.cell? ⟨w.heap.size, 0, none⟩ = some (.int .u64 (a : Int)) ∧ w'.cell? ⟨w.heap.size, 1, none⟩ = some (.int .u64 18446744073709551615)) (go_keep) (first | (go_at_call 40; refine HOf2.out.mono ?_; rintro e w3 ⟨a2, n2, c2, rfl, ⟨d5, d0, d1⟩, HB3, HT3⟩) | (go_at_call 105; refine (HLs.out _ _ _ _ HB3.out HT3.out).mono ?_; rintro e w4 ⟨a3, n3, c3, rfl, hb4, HT4⟩; have HB4 : Hid (Below w.heap.size w w4) := HB3.out.trans (hb4.mono HB3.out.size); obtain ⟨f5, f0, f1⟩ := cells3b hb4 d5 d0 d1; clear hb4) | (go_at_call 91; refine (HNx3.out _ _ _ _ HT4.out).mono ?_; rintro e w5 ⟨x, b, rfl, hb5, HO5⟩; have HB5 : Hid (Below w.heap.size w w5) := HB4.out.trans (hb5.mono HB4.out.size); obtain ⟨e5, e0, e1⟩ := cells3b hb5 f5 f0 f1; clear hb5))
        go_wp2_with fail
        go_ret2
        exact ⟨x, b, rfl, HO5.out, HB5.out⟩
end Go.Proofs.YtlplbbnicfeoaaaGreat
/- ask, askWidth: is an access on the bus? Own work. -/
namespace Go.Proofs.YtlplbbnicfeoaaaGreat
open Go.RowKit Go.Maps Go.Proofs.YtlplbbnicfeoaaaGreat.Sp
/-- a Fault in its box -/
def BoxF (w : World) (b : Nat) (x y : Int) : Prop := w.heap[b]? = some (.cells #[.int .i64 x, .int .u64 y] 57 (0, 0))
theorem BoxF.cells {w : World} {b : Nat} {x y : Int} (h : BoxF w b x y) : w.cell? ⟨b, 0, none⟩ = some (.int .i64 x) ∧ w.cell? ⟨b, 1, none⟩ = some (.int .u64 y) ∧ w.frozen? ⟨b, 0, none⟩ = false ∧ w.frozen? ⟨b, 1, none⟩ = false := by
  refine ⟨?_, ?_, by simp [World.frozen?, show w.heap[b]? = _ from h], by simp [World.frozen?, show w.heap[b]? = _ from h]⟩ <;> rw [cell_of_row w b _ _ _ _ h] <;> rfl
theorem BoxF.set {w : World} {b : Nat} {x y : Int} (h : BoxF w b x y) (x' y' : Int) : BoxF ((w.setCell ⟨b, 0, none⟩ (.int .i64 x')).setCell ⟨b, 1, none⟩ (.int .u64 y')) b x' y' := by
  have h' : w.heap[b]? = _ := h
  simp [BoxF, World.setCell, Array.getElem?_modify, h']
theorem BoxF.lt {w : World} {b : Nat} {x y : Int} (h : BoxF w b x y) : b < w.heap.size := (Array.getElem?_eq_some_iff.1 h).1
theorem BoxF.below {w w' : World} {b : Nat} {x y : Int} (h : BoxF w b x y) (hb : Below w.heap.size w w') : BoxF w' b x y := (hb.block b h.lt).trans h
theorem BoxF.keeps {Z : Nat → Prop} {w w' : World} {b : Nat} {x y : Int} (h : BoxF w b x y) (hk : Keeps Z w w') (hn : ¬ Z b) : BoxF w' b x y := (hk.block b h.lt hn).trans h
theorem BoxF.new (w : World) (x y : Int) : BoxF (w.alloc (Obj.cells #[.int .i64 x, .int .u64 y] 57)) w.heap.size x y := heap_alloc_new w _
def FaultV (why at_ : Int) : Value := .agg #[.int .i64 why, .int .u64 at_]
def up (b : Bool) (n : Nat) : Nat := if b then n + 1 else n
/-- what an access asks -/
def AskPost (w : World) (m B : Nat) (V : Value × Value × Value) (T : Nat → Option Nat) (M : Nat → Nat) (rs ds : List Sp) (L S X a n : Nat) (e : Ending) (w' : World) : Prop :=
  ∃ x b, OffR (rs ++ ds) a n x b ∧ e = .returned (FaultV (if b then 30 else 0) x) ∧ Mac w' m B V T M rs ds L S (up b X) ∧ Keeps (fun j => j = m) w w'
set_option maxRecDepth 100000 in
set_option maxHeartbeats 4000000 in
theorem ask_any {w : World} {m B : Nat} {V : Value × Value × Value} {T : Nat → Option Nat} {M : Nat → Nat} {rs ds : List Sp} {L S X a n : Nat} (h : Mac w m B V T M rs ds L S X) (ha : a ≤ 18446744073709551615) (hn : n ≤ 9223372036854775807) (hX : X ≤ 4611686018427387904) :
    Calls Tryz.prog 72 #[.pointer (some ⟨m, 0, none⟩), .int .u64 (a : Int), .int .i64 (n : Int)] w (AskPost w m B V T M rs ds L S X a n) := by
  have HM : Hid (Mac w m B V T M rs ds L S X) := h
  have HO : Hid (∀ W, Below w.heap.size w W → Calls Tryz.prog 88 #[.pointer (some ⟨m, 0, none⟩), .int .u64 (a : Int), .int .i64 (n : Int)] W fun e w' => ∃ x b, e = .returned (.tuple #[.int .u64 x, .bool b]) ∧ OffR (rs ++ ds) a n x b ∧ Below W.heap.size W w') := fun W hW => off_any (h.below hW) ha hn
  clear h
  go_enter Tryz.func72, Tryz.ntmps72
  go_wp2_with fail
  refine (HO.out _ ((Below.refl _ _).alloc (Nat.le_refl _) _)).mono ?_
  rintro e w1 ⟨x, b, rfl, ho, hb1⟩
  have HOff : Hid (OffR (rs ++ ds) a n x b) := ho
  have HB1 : Hid (Below w.heap.size w w1) := ((Below.refl _ _).alloc (Nat.le_refl _) _).trans (hb1.mono (by simp))
  have HX1 : Hid (BoxF w1 w.heap.size 0 0) := (BoxF.new w 0 0).below hb1
  have HM1 : Hid (Mac w1 m B V T M rs ds L S X) := HM.out.below HB1.out
  obtain ⟨x0, x1, f0, f1⟩ := HX1.out.cells
  obtain ⟨_, _, c2, _, g2⟩ := HM1.out.cells
  have g2 := g2 2
  have hml := HM.out.lt
  clear ho hb1 HO
  cases b with
  | false =>
    go_wp2_with fail
    obtain ⟨d0, d1, _⟩ := (HX1.out.set 0 0).cells
    refine bodyPost_ret (v := .agg #[.int .i64 0, .int .u64 0]) (by simp [results, Tryz.results72, go_sem, d0, d1]) rfl ?_
    have hb2 := (HB1.out.setCell (p := ⟨w.heap.size, 0, none⟩) (Nat.le_refl _) (.int .i64 0)).setCell (p := ⟨w.heap.size, 1, none⟩) (Nat.le_refl _) (.int .u64 0)
    refine ⟨x, false, HOff.out, ?_, HM.out.below hb2, Keeps.of_below hb2⟩
    rw [(HOff.out.2 rfl).1]
    rfl
  | true =>
    have hb3 : BoxF (w1.setCell ⟨m, 2, none⟩ (.int .i64 ((X : Int) + 1))) w.heap.size 0 0 := HX1.out.keeps (Keeps.setCell _ _ _ _) (by omega)
    have HX3 : Hid (BoxF (w1.setCell ⟨m, 2, none⟩ (.int .i64 ((X : Int) + 1))) w.heap.size 0 0) := hb3
    obtain ⟨y0, y1, k0, k1⟩ := hb3.cells
    clear hb3
    go_wp2_with fail
    obtain ⟨d0, d1, _⟩ := (HX3.out.set 30 x).cells
    refine bodyPost_ret (v := .agg #[.int .i64 30, .int .u64 x]) (by simp [results, Tryz.results72, go_sem, d0, d1]) rfl ?_
    have hk : Keeps (fun j => j = m) w (((w1.setCell ⟨m, 2, none⟩ (.int .i64 ((X : Int) + 1))).setCell ⟨w.heap.size, 0, none⟩ (.int .i64 30)).setCell ⟨w.heap.size, 1, none⟩ (.int .u64 x)) :=
      (((Keeps.of_below (S := fun j => j = m) HB1.out).trans (Keeps.setCell _ _ _ _) (fun _ _ e => e)).trans (Keeps.setCell _ _ _ _) (fun i hi e => absurd e (by omega))).trans (Keeps.setCell _ _ _ _) (fun i hi e => absurd e (by omega))
    refine ⟨x, true, HOff.out, rfl, HM.out.recount hk (fun h0 => ?_), hk⟩
    rw [Below.heap_setCell _ _ _ _ (show m ≠ w.heap.size by omega), Below.heap_setCell _ _ _ _ (show m ≠ w.heap.size by omega)]
    have h1 := (HB1.out.block m hml).trans h0
    simp only [World.setCell, Array.getElem?_modify]
    rw [if_pos trivial, h1]
    simp [up]
end Go.Proofs.YtlplbbnicfeoaaaGreat
/- Put of no bytes and a number of 64 bits; Sub. Own work. -/
namespace Go.Proofs.YtlplbbnicfeoaaaGreat
open Go.RowKit Go.Maps
set_option maxRecDepth 100000 in
set_option maxHeartbeats 2000000 in
theorem put_nil {n : Nat} (w : World) (hn : n ≤ 18446744073709551615) : Calls Tryz.prog 45 #[.slice none 0 0, .int .u64 (n : Int)] w fun e w' => ∃ v', e = .returned v' ∧ Own w' w.heap.size v' (Pl.le 8 n) ∧ Below w.heap.size w w' := by
  obtain ⟨i, hi, hz0, hz1, hz2⟩ := info_parts info_byte
  have hsz : (Tryz.prog.info? 5).map (·.size) = some 1 := by rw [hi, Option.map_some, hz1]
  have HSz : Hid ((Tryz.prog.info? 5).map (·.size) = some 1) := hsz
  have HB : Hid (i.bytes * 8 ≤ 281474976710656) := by rw [hz2]; show (1 * 8 : Nat) ≤ _; omega
  have HI : Hid (Tryz.prog.info? 5 = some i ∧ i.zero = some (.int .u8 0) ∧ i.size = 1) := ⟨hi, hz0, hz1⟩
  clear hsz hi hz0 hz1 hz2
  go_enter Tryz.func45, Tryz.ntmps45
  go_wp2_with (first | (go_at_call 75; refine (size_u64 _).mono ?_; rintro e w' ⟨rfl, hw⟩; have hw := hw.symm; subst hw) | (at_make; refine wpList_make_own _ rfl _ _ 104 rfl w.heap.size 5 i (.int .u8 0) 1 Tryz.underlying104 HI.out.1 HI.out.2.1 HI.out.2.2 _ _ _ 8 rfl rfl rfl HB.out (by decide) (Nat.le_refl _) ?_; intro w1 hown hgrow; have HO1 : Hid (Own w1 w.heap.size (.slice (some ⟨w.heap.size, 0, none⟩) 0 8) []) := hown; have HG1 : Hid (w.grownBy w1 none) := hgrow; clear hown hgrow) | (refine wpList_copy_nothing rfl (.tmp 13) (.tmp 14) _ _ rfl 5 Tryz.underlying104 HSz.out _ _ _ _ _ _ rfl rfl rfl ?_))
  refine (extend_u64 HO1.out hn (by decide) HG1.out.size).mono ?_
  rintro e w2 ⟨v2, rfl, ho2, hk2, ha2⟩
  have HO2 : Hid (Own w2 w.heap.size v2 (Pl.le 8 n)) := by rw [List.nil_append] at ho2; exact ho2
  have HB2 : Hid (Below w.heap.size w w2) := (below_grown HG1.out (Nat.le_refl _) (by simp)).trans (hk2.below HG1.out.size (fun i _ e => by cases e; exact Nat.le_refl _))
  clear ho2 hk2 ha2
  go_wp2_with fail
  go_ret
  exact ⟨_, rfl, HO2.out, HB2.out⟩
def subB (a b : Int) : Int × Bool := if a < b then (0, false) else (a - b, true)
end Go.Proofs.YtlplbbnicfeoaaaGreat
