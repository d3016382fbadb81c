import Derived.Test.YtlplbbnicfeoaaaGreatPq23
/- refusal: why a range may not be laid beside the ground. Own work. -/
namespace Go.Proofs.YtlplbbnicfeoaaaGreat
open Go.RowKit Go.Maps Go.Proofs.YtlplbbnicfeoaaaGreat.Sp
def refuseV (G : List Sp) (a s most : Int) : Int :=
  if s = 0 ∨ s % 4096 ≠ 0 ∨ most < s then 32 else if a % 4096 ≠ 0 then 33 else if 4294967296 ≤ a + (s - 1) then 34 else if touchesB G (a, a + (s - 1)) then 35 else 0
set_option maxRecDepth 100000 in
set_option maxHeartbeats 4000000 in
theorem refusal_any {w : World} {vg : Value} {G : List Sp} {a s most : Int} (hv : U64.SV w vg G) (hc : Canon 18446744073709551615 G) (hl : G.length ≤ 64) (ha : 0 ≤ a ∧ a ≤ 18446744073709551615) (hs : 0 ≤ s ∧ s ≤ 18446744073709551615) (hm : 0 ≤ most ∧ most ≤ 18446744073709551615) :
    Calls Tryz.prog 62 #[.agg #[vg], .agg #[.int .u64 a, .int .u64 s], .int .u64 most] w fun e w' => e = .returned (.int .i64 (refuseV G a s most)) ∧ Below w.heap.size w w' := by
  have HB0 : Hid (∀ X Y, Below w.heap.size w ((w.alloc X).alloc Y)) := fun X Y => ((Below.refl _ _).alloc (Nat.le_refl _) _).alloc (by simp) _
  have HV : Hid (U64.SV w vg G) := hv
  have HC : Hid (Canon 18446744073709551615 G) := hc
  clear hv hc
  obtain ⟨a0, a1⟩ := ha
  obtain ⟨s0, s1⟩ := hs
  obtain ⟨m0, m1⟩ := hm
  by_cases c1 : s = 0
  · subst c1
    have HE : Hid (refuseV G a 0 most = 32) := if_pos (.inl rfl)
    have HAdd : Hid (∀ W, Calls Tryz.prog 32 #[.int .u64 a, .int .u64 18446744073709551615] W fun e w' => e = .returned (.tuple #[.int .u64 (U64.addB a 18446744073709551615).1, .bool (U64.addB a 18446744073709551615).2]) ∧ w' = W) := fun W => U64.add_any (by omega) (by omega) W
    go_enter Tryz.func62, Tryz.ntmps62
    go_wp2_with (first | (go_at_call 32; refine (HAdd.out _).mono ?_; rintro e w' ⟨rfl, hw'⟩; have hw' := hw'.symm; subst hw'))
    go_ret
    exact ⟨by rw [HE.out]; rfl, HB0.out _ _⟩
  · have hw1 : IntKind.u64.wrap (s - 1) = s - 1 := U64.wrap_in (by omega) (by omega)
    obtain ⟨x, y, hxy⟩ : ∃ x y, U64.addB a (s - 1) = (x, y) := ⟨_, _, rfl⟩
    have HXY : Hid (U64.addB a (s - 1) = (x, y)) := hxy
    have HAdd : Hid (∀ W, Calls Tryz.prog 32 #[.int .u64 a, .int .u64 (s - 1)] W fun e w' => e = .returned (.tuple #[.int .u64 x, .bool y]) ∧ w' = W) := fun W => by
      have := U64.add_any (a := a) (b := s - 1) (by omega) (by omega) W
      rw [hxy] at this
      exact this
    clear hxy
    by_cases c2 : s % 4096 = 0
    · by_cases c3 : most < s
      · have HE : Hid (refuseV G a s most = 32) := if_pos (.inr (.inr c3))
        go_enter Tryz.func62, Tryz.ntmps62
        go_wp2_with (first | (go_at_call 32; refine (HAdd.out _).mono ?_; rintro e w' ⟨rfl, hw'⟩; have hw' := hw'.symm; subst hw'))
        go_ret
        exact ⟨by rw [HE.out]; rfl, HB0.out _ _⟩
      · have e1 : (s == 0) = false := by simpa using c1
        have e3 : decide (most < s) = false := decide_eq_false c3
        have HR : Hid (refuseV G a s most = if a % 4096 ≠ 0 then 33 else if 4294967296 ≤ a + (s - 1) then 34 else if touchesB G (a, a + (s - 1)) then 35 else 0) := if_neg (by omega)
        by_cases c4 : a % 4096 = 0
        · by_cases c5 : 4294967296 ≤ a + (s - 1)
          · have HE : Hid (refuseV G a s most = 34) := by rw [HR.out, if_neg (by omega), if_pos c5]; exact (rfl : _ = _)
            have hy : y = false ∨ (y = true ∧ 4294967296 ≤ x) := by
              have := HXY.out
              unfold U64.addB at this
              split at this
              · cases this; exact .inr ⟨rfl, c5⟩
              · cases this; exact .inl rfl
            rcases hy with rfl | ⟨rfl, hx⟩
            · go_enter Tryz.func62, Tryz.ntmps62
              go_wp2_with (first | (go_at_call 32; refine (HAdd.out _).mono ?_; rintro e w' ⟨rfl, hw'⟩; have hw' := hw'.symm; subst hw'))
              go_ret
              exact ⟨by rw [HE.out]; rfl, HB0.out _ _⟩
            · go_enter Tryz.func62, Tryz.ntmps62
              go_wp2_with (first | (go_at_call 32; refine (HAdd.out _).mono ?_; rintro e w' ⟨rfl, hw'⟩; have hw' := hw'.symm; subst hw'))
              go_ret
              exact ⟨by rw [HE.out]; rfl, HB0.out _ _⟩
          · have hxy2 : x = a + (s - 1) ∧ y = true := by
              have := HXY.out
              unfold U64.addB at this
              rw [if_pos (by omega)] at this
              cases this; exact ⟨rfl, rfl⟩
            obtain ⟨hx, rfl⟩ := hxy2
            have hx2 : x < 4294967296 := by omega
            obtain ⟨tb, htb⟩ : ∃ tb, tb = touchesB G (a, x) := ⟨_, rfl⟩
            have HE : Hid (refuseV G a s most = if tb then 35 else 0) := by show _ = _; rw [HR.out, if_neg (by omega), if_neg c5, htb, hx]
            have HT : Hid (∀ W, Below w.heap.size w W → Calls Tryz.prog 83 #[.agg #[vg], .agg #[.int .u64 a, .int .u64 x]] W fun e w' => e = .returned (.bool tb) ∧ Below W.heap.size W w') := fun W hW => by
              rw [htb]
              exact U64.touches_any (x := (a, x)) (HV.out.below hW (Nat.le_refl _)) HC.out (by omega)
            clear hx htb
            cases tb with
            | true =>
              go_enter Tryz.func62, Tryz.ntmps62
              go_wp2_with (first | (go_at_call 32; refine (HAdd.out _).mono ?_; rintro e w' ⟨rfl, hw'⟩; have hw' := hw'.symm; subst hw'))
              refine (HT.out _ (HB0.out _ _)).mono ?_
              rintro e w2 ⟨rfl, hb2⟩
              have HB2 : Hid (Below w.heap.size w w2) := (HB0.out _ _).trans (hb2.mono (by simp; omega))
              clear hb2
              go_wp2_with fail
              go_ret
              exact ⟨by rw [HE.out]; rfl, HB2.out⟩
            | false =>
              go_enter Tryz.func62, Tryz.ntmps62
              go_wp2_with (first | (go_at_call 32; refine (HAdd.out _).mono ?_; rintro e w' ⟨rfl, hw'⟩; have hw' := hw'.symm; subst hw'))
              refine (HT.out _ (HB0.out _ _)).mono ?_
              rintro e w2 ⟨rfl, hb2⟩
              have HB2 : Hid (Below w.heap.size w w2) := (HB0.out _ _).trans (hb2.mono (by simp; omega))
              clear hb2
              go_wp2_with fail
              go_ret
              exact ⟨by rw [HE.out]; rfl, HB2.out⟩
        · have HE : Hid (refuseV G a s most = 33) := by rw [HR.out]; exact if_pos c4
          go_enter Tryz.func62, Tryz.ntmps62
          go_wp2_with (first | (go_at_call 32; refine (HAdd.out _).mono ?_; rintro e w' ⟨rfl, hw'⟩; have hw' := hw'.symm; subst hw'))
          go_ret
          exact ⟨by rw [HE.out]; rfl, HB0.out _ _⟩
    · have HE : Hid (refuseV G a s most = 32) := if_pos (.inr (.inl c2))
      go_enter Tryz.func62, Tryz.ntmps62
      go_wp2_with (first | (go_at_call 32; refine (HAdd.out _).mono ?_; rintro e w' ⟨rfl, hw'⟩; have hw' := hw'.symm; subst hw'))
      go_ret
      exact ⟨by rw [HE.out]; rfl, HB0.out _ _⟩
end Go.Proofs.YtlplbbnicfeoaaaGreat
/- stake: the ground and a list's ranges. Own work. -/
namespace Go.Proofs.YtlplbbnicfeoaaaGreat
open Go.RowKit Go.Maps Go.Proofs.YtlplbbnicfeoaaaGreat.Sp
/-- does the range have a byte in common with one of these? -/
def overB (pre : List Sp) (a s : Int) : Bool := pre.any fun q => decide (q.1 ≤ a + (s - 1)) && decide (a ≤ q.1 + (q.2 - 1))
def refuse1 (pre : List Sp) (a s most : Int) : Int :=
  if s = 0 ∨ s % 4096 ≠ 0 ∨ most < s then 32 else if a % 4096 ≠ 0 then 33 else if 4294967296 ≤ a + (s - 1) then 34 else if overB pre a s then 35 else 0
def stakeW (most : Int) : List Sp → List Sp → Int
  | _, [] => 0
  | pre, r :: rest => if refuse1 pre r.1 r.2 most = 0 then stakeW most (pre ++ [r]) rest else refuse1 pre r.1 r.2 most
/-- G is the ground of these ranges -/
def Ground (G pre : List Sp) : Prop := Canon 18446744073709551615 G ∧ (∀ p, In p G ↔ On pre p) ∧ Sane pre ∧ G.length ≤ pre.length
theorem nodup_len : ∀ (l m : List Int), l.Pairwise (· ≠ ·) → (∀ x ∈ l, x ∈ m) → l.length ≤ m.length
  | [], _, _, _ => Nat.zero_le _
  | x :: l, m, h, hs => by
    rw [List.pairwise_cons] at h
    have h1 := hs x (List.mem_cons_self ..)
    have h2 := nodup_len l (m.erase x) h.2 (fun y hy => (List.mem_erase_of_ne (fun e => h.1 y hy e.symm)).2 (hs y (List.mem_cons_of_mem _ hy)))
    rw [List.length_erase_of_mem h1] at h2
    have := List.length_pos_of_mem h1
    simp only [List.length_cons]
    omega
theorem spans_le {G pre : List Sp} (hc : Canon 18446744073709551615 G) (hi : ∀ p, In p G ↔ On pre p) : G.length ≤ pre.length := by
  have h := nodup_len (G.map (·.1)) (pre.map (·.1)) ?_ ?_
  · simpa using h
  · rw [List.pairwise_map]
    refine List.Pairwise.imp_of_mem (fun {x y} hx hy hxy => ?_) hc.2
    have := hc.1 x hx
    omega
  · intro z hz
    obtain ⟨x, hx, rfl⟩ := List.mem_map.1 hz
    have hb := hc.1 x hx
    obtain ⟨r, hr, h1, h2⟩ := (hi x.1).1 ⟨x, hx, by omega, by omega⟩
    refine List.mem_map.2 ⟨r, hr, ?_⟩
    by_cases e : r.1 = x.1
    · exact e
    · exfalso
      obtain ⟨y, hy, h3, h4⟩ := (hi (x.1 - 1)).2 ⟨r, hr, by omega, by omega⟩
      obtain ⟨l1, l2, rfl⟩ := List.append_of_mem hx
      obtain ⟨_, hc2, hc3⟩ := canon_append.1 hc
      rcases List.mem_append.1 hy with hy | hy
      · have := hc3 y hy x (List.mem_cons_self ..)
        omega
      · rcases List.mem_cons.1 hy with rfl | hy
        · omega
        · have := (canon_cons.1 hc2).2.1 y hy
          omega
theorem refuse_same {G pre : List Sp} {a s most : Int} (h : Ground G pre) (hs : 0 ≤ s) : refuseV G a s most = refuse1 pre a s most := by
  unfold refuseV refuse1
  by_cases h1 : s = 0 ∨ s % 4096 ≠ 0 ∨ most < s
  · rw [if_pos h1, if_pos h1]
  · rw [if_neg h1, if_neg h1]
    have : touchesB G (a, a + (s - 1)) = overB pre a s := by
      rw [Bool.eq_iff_iff, touchesB_iff h.1]
      unfold overB
      rw [List.any_eq_true]
      constructor
      · rintro ⟨p, h2, h3, h4⟩
        obtain ⟨r, hr, h5, h6⟩ := (h.2.1 p).1 h4
        simp only at h2 h3
        exact ⟨r, hr, by simp; omega⟩
      · rintro ⟨r, hr, h2⟩
        simp at h2
        have := h.2.2.1 r hr
        refine ⟨max a r.1, by show a ≤ _; omega, by show _ ≤ a + (s - 1); omega, (h.2.1 _).2 ⟨r, hr, by omega, by omega⟩⟩
    rw [this]
theorem ground_nil : Ground [] [] := ⟨canon_nil _, fun p => ⟨fun h => absurd h (in_nil p), fun ⟨_, h, _⟩ => by cases h⟩, fun _ h => (by cases h), Nat.le_refl _⟩
theorem ground_step {G pre ts rs : List Sp} {r : Sp} {most : Int} (h : Ground G pre) (h0 : refuse1 pre r.1 r.2 most = 0) (hr : 0 ≤ r.1 ∧ 0 ≤ r.2) (ht : OfR 18446744073709551615 [(r.1, r.1 + (r.2 - 1))] ts) (hm : Made 18446744073709551615 (fun a b => a || b) G ts rs) : Ground rs (pre ++ [r]) := by
  unfold refuse1 at h0
  by_cases h1 : r.2 = 0 ∨ r.2 % 4096 ≠ 0 ∨ most < r.2
  · rw [if_pos h1] at h0; omega
  · rw [if_neg h1] at h0
    by_cases h2 : r.1 % 4096 ≠ 0
    · rw [if_pos h2] at h0; omega
    · rw [if_neg h2] at h0
      by_cases h3 : 4294967296 ≤ r.1 + (r.2 - 1)
      · rw [if_pos h3] at h0; omega
      · have hin : ∀ p, In p rs ↔ On (pre ++ [r]) p := fun p => by
          rw [hm.or h.1 ht.1 p, ht.2.1 p, in_one, h.2.1 p]
          constructor
          · rintro (⟨q, hq, h4⟩ | h4)
            · exact ⟨q, List.mem_append_left _ hq, h4⟩
            · exact ⟨r, List.mem_append_right _ (List.mem_singleton.2 rfl), by simp only at h4; omega⟩
          · rintro ⟨q, hq, h4⟩
            rcases List.mem_append.1 hq with hq | hq
            · exact .inl ⟨q, hq, h4⟩
            · rw [List.mem_singleton.1 hq] at h4
              exact .inr (by show r.1 ≤ p ∧ p ≤ r.1 + (r.2 - 1); omega)
        refine ⟨hm.1, hin, fun q hq => ?_, ?_⟩
        · rcases List.mem_append.1 hq with hq | hq
          · exact h.2.2.1 q hq
          · rw [List.mem_singleton.1 hq]; omega
        · exact spans_le hm.1 hin
theorem stakeW_step {most : Int} {pre rs : List Sp} {k : Nat} (h : k < rs.length) : stakeW most (pre ++ rs.take k) (rs.drop k) = if refuse1 (pre ++ rs.take k) rs[k].1 rs[k].2 most = 0 then stakeW most (pre ++ rs.take (k + 1)) (rs.drop (k + 1)) else refuse1 (pre ++ rs.take k) rs[k].1 rs[k].2 most := by
  rw [List.drop_eq_getElem_cons h, stakeW, List.take_succ_eq_append_getElem h, List.append_assoc]
def Box1 (w : World) (b : Nat) (v : Value) : Prop := w.heap[b]? = some (.cells #[v] 90 (0, 0))
theorem Box1.cell {w : World} {b : Nat} {v : Value} (h : Box1 w b v) : w.cell? ⟨b, 0, none⟩ = some v := by rw [cell_of_row w b _ _ _ _ h]; rfl
theorem Box1.thawed {w : World} {b : Nat} {v : Value} (h : Box1 w b v) : w.frozen? ⟨b, 0, none⟩ = false := by simp [World.frozen?, show w.heap[b]? = _ from h]
theorem Box1.lt {w : World} {b : Nat} {v : Value} (h : Box1 w b v) : b < w.heap.size := (Array.getElem?_eq_some_iff.1 h).1
theorem Box1.keeps {Z : Nat → Prop} {w w' : World} {b : Nat} {v : Value} (h : Box1 w b v) (hk : Keeps Z w w') (hn : ¬ Z b) : Box1 w' b v := (hk.block b h.lt hn).trans h
theorem Box1.below {w w' : World} {b : Nat} {v : Value} (h : Box1 w b v) (hb : Below w.heap.size w w') : Box1 w' b v := (hb.block b h.lt).trans h
theorem Box1.set {w : World} {b : Nat} {v : Value} (h : Box1 w b v) (u : Value) : Box1 (w.setCell ⟨b, 0, none⟩ u) b u := by
  have h' : w.heap[b]? = _ := h
  simp [Box1, World.setCell, Array.getElem?_modify, h']
/-- where the loop of stake stands -/
def StakeAt (w wr : World) (vg : Value) (pre rs : List Sp) (v : Value) (k : Nat) : Prop :=
  Below w.heap.size w wr ∧ Box1 wr w.heap.size v ∧ Box1 wr (w.heap.size + 1) (.slice none 0 0) ∧ (∃ Gk, U64.SV wr v Gk ∧ Ground Gk (pre ++ rs.take k)) ∧ ∀ j, v.ownBlock = some j → (vg.ownBlock = some j ∧ j < w.heap.size) ∨ w.heap.size + 2 ≤ j
theorem refuse1_zero {pre : List Sp} {a s most : Int} (h : refuse1 pre a s most = 0) (hs : 0 ≤ s) : 0 < s ∧ a + s ≤ 4294967296 := by
  unfold refuse1 at h
  split at h
  · omega
  · split at h
    · omega
    · split at h
      · omega
      · omega
theorem stake_with {w wr : World} {vg : Value} {pre rs : List Sp} {a : Option Addr} {n c k : Nat} {most : Int} (h : StakeAt w wr vg pre rs (.slice a n c) k) (hk : k < rs.length) (hl : pre.length + rs.length ≤ 64) (hf : Fits 18446744073709551615 rs) (h0 : refuse1 (pre ++ rs.take k) rs[k].1 rs[k].2 most = 0) (W : World) (hW : Below wr.heap.size wr W) :
    Calls Tryz.prog 63 #[.agg #[.slice a n c], .agg #[.int .u64 rs[k].1, .int .u64 (rs[k].1 + rs[k].2 - 1)]] W fun e w' => ∃ a' n' c', e = .returned (.agg #[.slice a' n' c']) ∧ Hid (Below W.heap.size W w') ∧ Hid (StakeAt w (w'.setCell ⟨w.heap.size, 0, none⟩ (.slice a' n' c')) vg pre rs (.slice a' n' c') (k + 1)) ∧ Box1 w' w.heap.size (.slice a n c) := by
  obtain ⟨hB, h1, h2, ⟨Gk, hS, hG⟩, hj⟩ := h
  have hx := hf rs[k] (List.getElem_mem _)
  obtain ⟨z1, z2⟩ := refuse1_zero h0 hx.2.2.1
  have hgl := hG.2.2.2
  refine (U64.with_any (x := (rs[k].1, rs[k].1 + rs[k].2 - 1)) (hS.below hW (Nat.le_refl _)) hG.1 (by simp at hgl; omega) (fun y hy => by rw [List.mem_singleton.1 hy]; simp only; omega)).mono ?_
  rintro e w' ⟨v', us, rfl, ho, ⟨ts, ht, hm⟩, hb'⟩
  obtain ⟨a', n', c', hv⟩ : ∃ a n c, v' = .slice a n c := by
    obtain ⟨a, c, e, _⟩ := ho.sv
    exact ⟨a, _, c, e⟩
  subst hv
  have hbw : Below wr.heap.size wr w' := hW.trans (hb'.mono hW.size)
  have hge : ∀ j, (Value.slice a' n' c').ownBlock = some j → W.heap.size ≤ j := fun j e => (World.ownsRow.lt ho j e).1
  have hlt := h1.lt
  have hlt2 := h2.lt
  have hsz := hW.size
  have hb1 : Box1 w' w.heap.size (.slice a n c) := h1.below hbw
  rw [show rs[k].1 + rs[k].2 - 1 = rs[k].1 + (rs[k].2 - 1) by omega] at ht
  have hg' := ground_step hG h0 ⟨hx.1, hx.2.2.1⟩ ht hm
  rw [List.append_assoc, ← List.take_succ_eq_append_getElem hk] at hg'
  refine ⟨a', n', c', rfl, hb', ⟨(hB.trans (hbw.mono (by have := hB.size; omega))).setCell (p := ⟨w.heap.size, 0, none⟩) (Nat.le_refl _) _, hb1.set _, (h2.below hbw).keeps (Keeps.setCell _ _ _ _) (by omega), ⟨us, ho.sv.keeps (Keeps.setCell _ _ _ _) (fun j e e' => by have := hge j e; omega), hg'⟩, fun j e => .inr (by have := hge j e; omega)⟩, hb1⟩
set_option maxRecDepth 100000 in
set_option maxHeartbeats 4000000 in
theorem stake_any {w : World} {vg v : Value} {G pre rs : List Sp} {most : Int} (hg : U64.SV w vg G) (hG : Ground G pre) (hl : pre.length + rs.length ≤ 64) (hv : U64.SV w v rs) (hf : Fits 18446744073709551615 rs) (hm : 0 ≤ most ∧ most ≤ 18446744073709551615) :
    Calls Tryz.prog 39 #[.agg #[vg], v, .int .u64 most] w fun e w' => Below w.heap.size w w' ∧ ∃ a n c, e = .returned (.tuple #[.agg #[.slice a n c], .int .i64 (stakeW most pre rs)]) ∧ (stakeW most pre rs = 0 → (∃ G', U64.SV w' (.slice a n c) G' ∧ Ground G' (pre ++ rs)) ∧ ∀ j, (Value.slice a n c).ownBlock = some j → (vg.ownBlock = some j ∧ j < w.heap.size) ∨ w.heap.size ≤ j) := by
  have HV : Hid (U64.SV w v rs) := hv
  have HF : Hid (Fits 18446744073709551615 rs) := hf
  have HMo : Hid (0 ≤ most ∧ most ≤ 18446744073709551615) := hm
  obtain ⟨ag, ng, cg, hvg⟩ : ∃ a n c, vg = .slice a n c := by
    obtain ⟨a, c, e, _⟩ := hg
    exact ⟨a, _, c, e⟩
  subst hvg
  have HS0 : Hid (StakeAt w ((w.alloc (Obj.cells #[.slice ag ng cg] 90)).alloc (Obj.cells #[.slice none 0 0] 90)) (.slice ag ng cg) pre rs (.slice ag ng cg) 0) := by
    have hb : Below w.heap.size w ((w.alloc (Obj.cells #[.slice ag ng cg] 90)).alloc (Obj.cells #[.slice none 0 0] 90)) := ((Below.refl _ _).alloc (Nat.le_refl _) _).alloc (by simp) _
    refine ⟨hb, (show Box1 (w.alloc (Obj.cells #[.slice ag ng cg] 90)) w.heap.size _ from heap_alloc_new w _).below ((Below.refl _ _).alloc (Nat.le_refl _) _), ?_, ⟨G, hg.below hb (Nat.le_refl _), by rw [List.take_zero, List.append_nil]; exact hG⟩, fun j e => .inl ⟨e, sv_lt hg j e⟩⟩
    have := heap_alloc_new (w.alloc (Obj.cells #[.slice ag ng cg] 90)) (Obj.cells #[.slice none 0 0] 90)
    rwa [show (w.alloc (Obj.cells #[.slice ag ng cg] 90)).heap.size = w.heap.size + 1 by simp] at this
  obtain ⟨ao, cap, rfl, h1, h2, _, _, _⟩ := hv
  unfold maxLen at h2
  clear hg hG hf hm
  go_enter Tryz.func39, Tryz.ntmps39
  go_wp2_with fail
  go_loopw [13] (fun i wr => ∃ k : Nat, ∃ a n c, k ≤ rs.length ∧ i = .int .i64 (k : Int) ∧ Hid (StakeAt w wr (.slice ag ng cg) pre rs (.slice a n c) k) ∧ Hid (stakeW most pre rs = stakeW most (pre ++ rs.take k) (rs.drop k))) (fun i _ => rs.length - (intOf i).toNat)
  case atStart => exact ⟨0, ag, ng, cg, Nat.zero_le _, rfl, HS0, by show _ = _; rw [List.take_zero, List.append_nil, List.drop_zero]⟩
  case round =>
    obtain ⟨k, ak, nk, ck, hk, rfl, HS, HW⟩ := hrel
    obtain ⟨hB, hb1, hb2, ⟨Gk, hS, hG⟩, hj⟩ := HS.out
    have q0 := fun X : Obj => (hb1.below ((Below.refl _ _).alloc (Nat.le_refl _) X)).cell
    have q1 := fun X : Obj => (hb1.below ((Below.refl _ _).alloc (Nat.le_refl _) X)).thawed
    have q2 := hb1.cell
    have HB : Hid (Below w.heap.size w wr) := hB
    have HB2 : Hid (Box1 wr (w.heap.size + 1) (.slice none 0 0)) := hb2
    have HSG : Hid (U64.SV wr (.slice ak nk ck) Gk ∧ Ground Gk (pre ++ rs.take k)) := ⟨hS, hG⟩
    clear hB hb1 hb2 hS hG hj
    by_cases hlt : k < rs.length
    · obtain ⟨ao', cap', e, _, _, _, _, h5⟩ := HV.out.below HB.out (Nat.le_refl _)
      cases e
      obtain ⟨g, off, rfl, d0, d1⟩ := h5 k hlt
      clear h5
      have hb := HF.out rs[k] (List.getElem_mem _)
      have HSt : Hid (stakeW most pre rs = if refuse1 (pre ++ rs.take k) rs[k].1 rs[k].2 most = 0 then stakeW most (pre ++ rs.take (k + 1)) (rs.drop (k + 1)) else refuse1 (pre ++ rs.take k) rs[k].1 rs[k].2 most) := by rw [HW.out]; exact stakeW_step hlt
      have HRf : Hid (∀ W, Below wr.heap.size wr W → Calls Tryz.prog 62 #[.agg #[.slice ak nk ck], .agg #[.int .u64 rs[k].1, .int .u64 rs[k].2], .int .u64 most] W fun e w' => e = .returned (.int .i64 (refuse1 (pre ++ rs.take k) rs[k].1 rs[k].2 most)) ∧ Below W.heap.size W w') := fun W hW => by
        rw [← refuse_same HSG.out.2 hb.2.2.1]
        exact refusal_any (HSG.out.1.below hW (Nat.le_refl _)) HSG.out.2.1 (by have := HSG.out.2.2.2.2; simp at this; omega) ⟨hb.1, hb.2.1⟩ ⟨hb.2.2.1, hb.2.2.2⟩ HMo.out
      have HWi : Hid (refuse1 (pre ++ rs.take k) rs[k].1 rs[k].2 most = 0 → ∀ W, Below wr.heap.size wr W → Calls Tryz.prog 63 #[.agg #[.slice ak nk ck], .agg #[.int .u64 rs[k].1, .int .u64 (rs[k].1 + rs[k].2 - 1)]] W fun e w' => ∃ a' n' c', e = .returned (.agg #[.slice a' n' c']) ∧ Hid (Below W.heap.size W w') ∧ Hid (StakeAt w (w'.setCell ⟨w.heap.size, 0, none⟩ (.slice a' n' c')) (.slice ag ng cg) pre rs (.slice a' n' c') (k + 1)) ∧ Box1 w' w.heap.size (.slice ak nk ck)) := fun h0 W hW => stake_with HS.out hlt hl HF.out h0 W hW
      have HZ : Hid (refuse1 (pre ++ rs.take k) rs[k].1 rs[k].2 most = 0 → 0 < rs[k].2 ∧ rs[k].1 + rs[k].2 ≤ 4294967296) := fun h0 => refuse1_zero h0 hb.2.2.1
      obtain ⟨x, hx⟩ : ∃ x, x = rs[k] := ⟨_, rfl⟩
      rw [← hx] at d0 d1 hb HSt HRf HWi HZ
      obtain ⟨why, hwhy⟩ : ∃ why, why = refuse1 (pre ++ rs.take k) x.1 x.2 most := ⟨_, rfl⟩
      rw [← hwhy] at HSt HRf HWi HZ
      clear hx hwhy
      obtain ⟨b0, b1, b2, b3⟩ := hb
      by_cases hw : why = 0
      · subst hw
        obtain ⟨z1, z2⟩ := HZ.out rfl
        have HWi2 := HWi.out rfl
        have HWi3 : Hid (∀ W, Below wr.heap.size wr W → Calls Tryz.prog 63 #[.agg #[.slice ak nk ck], .agg #[.int .u64 x.1, .int .u64 (x.1 + x.2 - 1)]] W fun e w' => ∃ a' n' c', e = .returned (.agg #[.slice a' n' c']) ∧ Hid (Below W.heap.size W w') ∧ Hid (StakeAt w (w'.setCell ⟨w.heap.size, 0, none⟩ (.slice a' n' c')) (.slice ag ng cg) pre rs (.slice a' n' c') (k + 1)) ∧ Box1 w' w.heap.size (.slice ak nk ck)) := HWi2
        have HSt2 : Hid (stakeW most pre rs = stakeW most (pre ++ rs.take (k + 1)) (rs.drop (k + 1))) := HSt.out
        clear HWi HWi2 HZ HSt
        go_wp2_with fail
        refine (HRf.out _ ((Below.refl _ _).alloc (Nat.le_refl _) _)).mono ?_
        rintro e w1 ⟨rfl, hb1⟩
        have HB1 : Hid (Below wr.heap.size wr w1) := ((Below.refl _ _).alloc (Nat.le_refl _) _).trans (hb1.mono (by simp))
        have e0 : w1.cell? ⟨w.heap.size, 0, none⟩ = some (.slice ak nk ck) := (hb1.cell (World.block_lt_of_cell? _ _ (q0 (Obj.cells #[.int .u64 x.1, .int .u64 x.2] 50)))).trans (q0 _)
        have e1 : w1.cell? ⟨wr.heap.size, 0, none⟩ = some (.int .u64 x.1) := (hb1.cell (p := ⟨wr.heap.size, 0, none⟩) (by simp)).trans (U64.new2 rfl _ _ _).1
        have e2 : w1.cell? ⟨wr.heap.size, 1, none⟩ = some (.int .u64 x.2) := (hb1.cell (p := ⟨wr.heap.size, 1, none⟩) (by simp)).trans (U64.new2 rfl _ _ _).2
        clear hb1 HRf
        go_wp2_with fail
        refine (HWi3.out _ HB1.out).mono ?_
        rintro e w2 ⟨a', n', c', rfl, HB2', HS2, hbx⟩
        have e3 := hbx.cell
        have e4 := hbx.thawed
        clear hbx
        go_wp2_with fail
        go_roundw
        case rel => exact ⟨k + 1, a', n', c', by omega, by go_num, HS2, HSt2⟩
        case measure => simp [intOf]; omega
      · have HSt2 : Hid (stakeW most pre rs = why) := by have := HSt.out; rwa [if_neg hw] at this
        have hwb : (why == 0) = false := by simpa using hw
        have hwn : (why != 0) = true := by simpa using hw
        clear HWi HZ HSt
        go_wp2_with fail
        refine (HRf.out _ ((Below.refl _ _).alloc (Nat.le_refl _) _)).mono ?_
        rintro e w1 ⟨rfl, hb1⟩
        have HB1 : Hid (Below wr.heap.size wr w1) := ((Below.refl _ _).alloc (Nat.le_refl _) _).trans (hb1.mono (by simp))
        have HX1 : Hid (Box1 w1 (w.heap.size + 1) (.slice none 0 0)) := HB2.out.below HB1.out
        have e0 := HX1.out.cell
        have e1 := HX1.out.thawed
        clear hb1 HRf
        go_wp2_with fail
        have d0 := (HX1.out.set (.slice none 0 0)).cell
        refine bodyPost_ret (v := .tuple #[.agg #[.slice none 0 0], .int .i64 why]) (by simp [results, Tryz.results39, go_sem, d0]) rfl ?_
        exact ⟨(HB.out.trans (HB1.out.mono HB.out.size)).setCell (p := ⟨w.heap.size + 1, 0, none⟩) (show w.heap.size ≤ w.heap.size + 1 by omega) _, none, 0, 0, by rw [HSt2.out], fun h => absurd (HSt2.out.symm.trans h) hw⟩
    · have HSt2 : Hid (stakeW most pre rs = 0) := by rw [HW.out, List.drop_of_length_le (by omega)]; exact (rfl : _ = _)
      have e0 := HB2.out.cell
      have e1 := HB2.out.thawed
      go_wp2_with fail
      have d0 := (HB2.out.set (.slice ak nk ck)).cell
      refine bodyPost_ret (v := .tuple #[.agg #[.slice ak nk ck], .int .i64 0]) (by simp [results, Tryz.results39, go_sem, d0]) rfl ?_
      obtain ⟨hB, hb1, hb2, ⟨Gk, hS, hG⟩, hj⟩ := HS.out
      refine ⟨hB.setCell (p := ⟨w.heap.size + 1, 0, none⟩) (show w.heap.size ≤ w.heap.size + 1 by omega) _, ak, nk, ck, by rw [HSt2.out], fun _ => ⟨⟨Gk, hS.keeps (Keeps.setCell _ _ _ _) (fun j e e' => by rcases hj j e with h | h <;> omega), ?_⟩, fun j e => (hj j e).imp id (fun h => by omega)⟩⟩
      rw [List.take_of_length_le (by omega)] at hG
      exact hG
end Go.Proofs.YtlplbbnicfeoaaaGreat
