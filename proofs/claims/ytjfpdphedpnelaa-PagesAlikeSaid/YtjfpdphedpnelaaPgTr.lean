/- Pages: tree. Own work. -/
import Derived.Test.YtjfpdphedpnelaaPgUm
import Derived.Test.YtjfpdphedpnelaaPgMk
import Derived.Test.YtjfpdphedpnelaaPgSet
namespace Go.Proofs.Ytjfpdphedpnelaa
open Go.RowKit Wk
set_option linter.unusedVariables false
/-- what is counted ahead of an entry of a middle table -/
def H2 (A B : Nat → Bool) (j k : Nat) : Nat := 1 + cntB A (j + 1) + cntB B (j * 512 + k)
theorem h2_zero {A B : Nat → Bool} {j : Nat} (h : A j = true) : H2 A B j 0 = T1 A B j + 1 := by
  unfold H2 T1
  simp only [cntB, h, if_true, Nat.add_zero]
  omega
theorem h2_end (A B : Nat → Bool) (j : Nat) : H2 A B j 512 = T1 A B (j + 1) := by
  unfold H2 T1
  rw [show j * 512 + 512 = (j + 1) * 512 by omega]
theorem h2_yes {A B : Nat → Bool} {j k : Nat} (h : B (j * 512 + k) = true) : H2 A B j (k + 1) = H2 A B j k + 1 := by
  unfold H2
  rw [show j * 512 + (k + 1) = j * 512 + k + 1 by omega]
  simp only [cntB, h, if_true]
  omega
theorem h2_no {A B : Nat → Bool} {j k : Nat} (h : B (j * 512 + k) = false) : H2 A B j (k + 1) = H2 A B j k := by
  unfold H2
  rw [show j * 512 + (k + 1) = j * 512 + k + 1 by omega]
  simp only [cntB, h]
  simp
theorem t1_no {base : Nat} {s : Bst} (hc : Cl base s) {j : Nat} (h : s.A j = false) : T1 s.A s.B (j + 1) = T1 s.A s.B j := by
  unfold T1
  rw [cntB_none (f := s.B) (a := j * 512) (b := (j + 1) * 512) (by omega) (fun i h1 h2 => by
    cases hb : s.B i with
    | false => rfl
    | true => have := hc.BA i hb; rw [show i / 512 = j by omega, h] at this; cases this)]
  simp only [cntB, h]
  simp
theorem t1_last {base : Nat} {s : Bst} (hc : Cl base s) : T1 s.A s.B 512 = s.nx := by
  have h0 := hc.n0
  have h1 := hc.n1
  rw [hc.nx]
  unfold T1
  rw [cntB_none (f := s.A) (a := s.n0) (b := 512) h0 (fun i h1 _ => hc.noA h1), cntB_none (f := s.B) (a := s.n1) (b := 512 * 512) h1 (fun i h1 _ => hc.noB h1)]
theorem t2_h2 (A B : Nat → Bool) {j k : Nat} (hk : k < 512) : T2 A B (j * 512 + k) = H2 A B j k := by
  unfold T2 H2
  rw [show (j * 512 + k) / 512 = j by omega]
theorem h2_bound {base : Nat} {s : Bst} (hc : Cl base s) (j k : Nat) : H2 s.A s.B j k ≤ s.nx := by
  have h1 := hc.cA (a := j + 1)
  have h2 : cntB s.B (j * 512 + k) ≤ cntB s.B s.n1 := by
    by_cases e : j * 512 + k ≤ s.n1
    · exact cntB_mono _ e
    · rw [cntB_none (f := s.B) (a := s.n1) (b := j * 512 + k) (by omega) (fun i hi _ => hc.noB hi)]
      exact Nat.le_refl _
  rw [hc.nx]
  unfold H2
  omega
theorem t1_bound {base : Nat} {s : Bst} (hc : Cl base s) (j : Nat) : T1 s.A s.B j ≤ s.nx := by
  have h1 := hc.cA (a := j)
  have h2 : cntB s.B (j * 512) ≤ cntB s.B s.n1 := by
    by_cases e : j * 512 ≤ s.n1
    · exact cntB_mono _ e
    · rw [cntB_none (f := s.B) (a := s.n1) (b := j * 512) (by omega) (fun i hi _ => hc.noB hi)]
      exact Nat.le_refl _
  rw [hc.nx]
  unfold T1
  omega
theorem GAt.same {w w' : World} {G n : Nat} {M : Nat → Nat} (h : GAt w G n M) (hb : Below w.heap.size w w') : GAt w' G n M := h.below hb
theorem ent_call {e : Nat} {l : Int} {r : Wk.Ent × Int} (he : e < 18446744073709551616) (hr : entB e l = r) (w : World) : Calls Try.prog 36 #[.int .u64 (e : Int), .int .i64 l] w fun x w' => x = .returned (.tuple #[.agg #[.int .u64 (r.1.1 : Int), .bool r.1.2.1, .bool r.1.2.2.1, .bool r.1.2.2.2.1, .bool r.1.2.2.2.2], .int .i64 r.2]) ∧ Below w.heap.size w w' := by
  have h := entry_any he l w
  rw [hr] at h
  exact h
set_option maxRecDepth 100000 in
set_option maxHeartbeats 8000000 in
theorem tree_any {w : World} {G n base : Nat} {s : Bst} (hc : Cl base s) (hg : GAt w G n s.M) (hn : s.nx = n) (hN : n ≤ 1024) (hb : base % 4096 = 0) (hl : base + n * 4096 ≤ 4294967296) (hL : ∀ b, s.L1 b ≠ 0 → s.L1 b < 18446744073709551616 ∧ ∃ F wr ex, entB (s.L1 b) 1 = ((F, false, true, wr, ex), 0)) : Calls Try.prog 18 #[.slice (some ⟨G, 0, none⟩) n n, .int .u64 (base : Int)] w fun e w' => e = .returned (.bool true) ∧ Below w.heap.size w w' := by
  have HG := Lib.hid hg
  have HC := Lib.hid hc
  have HNx := Lib.hid hn
  have HL := Lib.hid hL
  have HBs := Lib.hid hb
  have h1n : 1 ≤ n := by rw [← hn, hc.nx]; omega
  have HB0 : Hid (Below w.heap.size w w) := Below.refl _ _
  have HT0 : Hid ((1 : Nat) = T1 s.A s.B 0) := rfl
  have HTe : Hid (T1 s.A s.B 512 = n) := by rw [← hn]; exact t1_last hc
  clear hc hg hn hL hb
  go_enter Try.func18, Try.ntmps18
  go_wp2_with fail
  go_loopw [5, 6] (fun nv jv wr => ∃ (j N : Nat), j ≤ 512 ∧ jv = .int .i64 (j : Int) ∧ nv = .int .i64 (N : Int) ∧ N ≤ n ∧ Hid (N = T1 s.A s.B j) ∧ Hid (Below w.heap.size w wr)) (fun _ jv _ => 512 - (intOf jv).toNat)
  case atStart => exact ⟨0, 1, by omega, rfl, rfl, h1n, HT0, HB0⟩
  case round =>
    clear HB0 HT0
    obtain ⟨j, N, hj, rfl, rfl, hNn, HT, HB⟩ := hrel
    by_cases hj5 : j < 512
    · have jj : (j : Int) < 512 := by omega
      have wj : IntKind.i64.wrap ((j : Int) + 1) = ((j + 1 : Nat) : Int) := by rw [IntKind.wrap_i64]; omega
      have HGr := Lib.hid (HG.out.below HB.out)
      have cj := HGr.out.cell (p := j) (by omega)
      cases hA : s.A j with
      | false =>
        have hM : s.M j = 0 := by rw [HC.out.c0 j hj5, hA]; rfl
        have HT2 : Hid (N = T1 s.A s.B (j + 1)) := Lib.hid (by rw [t1_no HC.out hA]; exact HT.out)
        rw [hM] at cj
        have HE := Lib.hid (fun W => ent_call (e := 0) (l := 0) (by omega) (ent_none 0 (Or.inl rfl)) W)
        have HMz := Lib.hid hM
        clear hM hA HT
        unfold no at HE
        simp only at HE
        go_wp2_with fail
        refine (HE.out _).mono ?_
        rintro e w2 ⟨rfl, hb2⟩
        have HB2 := Lib.hid (HB.out.trans (hb2.mono HB.out.size))
        clear hb2 HB HGr cj HE
        have HB3 : Hid (Below w.heap.size w (w2.alloc (.cells #[.int .u64 0, .bool false, .bool false, .bool false, .bool false] 74))) := HB2.out.alloc HB2.out.size _
        go_upto_region 6 with fail
        generalize (w2.alloc (.cells #[.int .u64 0, .bool false, .bool false, .bool false, .bool false] 74)) = w3 at *
        have cj : w3.cell? ⟨G, j, none⟩ = some (.int .u64 0) := by
          have h5 := (HG.out.below HB3.out).cell (p := j) (by omega)
          rw [HMz.out] at h5
          exact h5
        go_wp2_with fail
        go_roundw
        case rel => exact ⟨j + 1, N, by omega, rfl, rfl, hNn, HT2, HB3⟩
        case measure => simp [intOf]; omega
      | true =>
        have HA := Lib.hid hA
        have hlt : N < n := by rw [HT.out, ← HNx.out]; exact HC.out.t1_lt hA
        have hM : s.M j = base + N * 4096 + 1 := by rw [HC.out.c0 j hj5, hA, HT.out]; rfl
        obtain ⟨K, hK⟩ : ∃ K, N * 4096 = K := ⟨_, rfl⟩
        obtain ⟨F, hF⟩ : ∃ F, base + K = F := ⟨_, rfl⟩
        have hF4 : F % 4096 = 0 := by have := HBs.out; omega
        have hFl : F + 4096 ≤ 4294967296 := by omega
        rw [hK, hF] at hM
        rw [hM] at cj
        have wN : IntKind.u64.wrap (N : Int) = (N : Int) := by rw [IntKind.wrap_u64]; omega
        have wK : IntKind.u64.wrap ((N : Int) * 4096) = (K : Int) := by rw [IntKind.wrap_u64]; omega
        have wF : IntKind.u64.wrap ((base : Int) + (K : Int)) = (F : Int) := by rw [IntKind.wrap_u64]; omega
        have w1N : IntKind.i64.wrap ((N : Int) + 1) = ((N + 1 : Nat) : Int) := by rw [IntKind.wrap_i64]; omega
        have jN : decide ((n : Int) ≤ (N : Int)) = false := decide_eq_false (by omega)
        have jN2 : decide (n ≤ N) = false := decide_eq_false (by omega)
        have HE := Lib.hid (fun W => ent_call (e := F + 1) (l := 0) (by omega) (ent_tab hF4 (by omega) (Or.inl rfl)) W)
        have HH0 : Hid (N + 1 = H2 s.A s.B j 0) := Lib.hid (by rw [h2_zero hA, HT.out])
        clear hM hA hK hF
        simp only at HE
        go_wp2_with fail
        refine (HE.out _).mono ?_
        rintro e w2 ⟨rfl, hb2⟩
        have HB2 := Lib.hid (HB.out.trans (hb2.mono HB.out.size))
        have HX : Hid (BoxE (w2.alloc (.cells #[.int .u64 (F : Int), .bool true, .bool false, .bool false, .bool false] 74)) w2.heap.size (F, true, false, false, false)) := BoxE.new w2 (F, true, false, false, false)
        have HB3 : Hid (Below w.heap.size w (w2.alloc (.cells #[.int .u64 (F : Int), .bool true, .bool false, .bool false, .bool false] 74))) := HB2.out.alloc HB2.out.size _
        clear hb2 HB HGr cj HE
        go_upto_region 6 with fail
        generalize (w2.alloc (.cells #[.int .u64 (F : Int), .bool true, .bool false, .bool false, .bool false] 74)) = w3 at *
        generalize w2.heap.size = X at *
        obtain ⟨x0, x1, x2, x3, x4⟩ := HX.out.cells
        simp only at x0
        clear x1 x2 x3 x4
        go_wp2_with fail
        clear x0 wF wK wN jN jN2
        go_loopw [5, 10] (fun nv kv wr => ∃ (k N' : Nat), k ≤ 512 ∧ kv = .int .i64 (k : Int) ∧ nv = .int .i64 (N' : Int) ∧ N' ≤ n ∧ Hid (N' = H2 s.A s.B j k) ∧ Hid (Below w.heap.size w wr)) (fun _ kv _ => 512 - (intOf kv).toNat)
        case atStart => exact ⟨0, N + 1, by omega, rfl, rfl, hlt, HH0, HB3⟩
        case round =>
          clear HH0 HB3 HX
          obtain ⟨k, N', hk, rfl, rfl, hN', HH, HB⟩ := hrel
          by_cases hk5 : k < 512
          · have jk : (k : Int) < 512 := by omega
            have jn : (N : Int) < (n : Int) := by omega
            have wk : IntKind.i64.wrap ((k : Int) + 1) = ((k + 1 : Nat) : Int) := by rw [IntKind.wrap_i64]; omega
            have hMk : s.M (N * 512 + k) = cond (s.B (j * 512 + k)) (base + N' * 4096 + 1) (s.L1 (j * 512 + k)) := by
              have h5 := HC.out.c1 j HA.out k hk5
              rw [← HT.out, t2_h2 s.A s.B hk5, ← HH.out] at h5
              exact h5
            have ck := (HG.out.below HB.out).cell (p := N * 512 + k) (by omega)
            cases hB : s.B (j * 512 + k) with
            | true =>
              rw [hB, cond_true] at hMk
              have hlt' : N' < n := by rw [HH.out, ← t2_h2 s.A s.B hk5, ← HNx.out]; exact HC.out.t2_lt hB
              have HH2 : Hid (N' + 1 = H2 s.A s.B j (k + 1)) := Lib.hid (by rw [h2_yes hB, HH.out])
              obtain ⟨K, hK⟩ : ∃ K, N' * 4096 = K := ⟨_, rfl⟩
              obtain ⟨F', hF⟩ : ∃ F, base + K = F := ⟨_, rfl⟩
              have hF4' : F' % 4096 = 0 := by have := HBs.out; omega
              have hFl' : F' + 4096 ≤ 4294967296 := by omega
              rw [hK, hF] at hMk
              rw [hMk] at ck
              have wN : IntKind.u64.wrap (N' : Int) = (N' : Int) := by rw [IntKind.wrap_u64]; omega
              have wK : IntKind.u64.wrap ((N' : Int) * 4096) = (K : Int) := by rw [IntKind.wrap_u64]; omega
              have wF : IntKind.u64.wrap ((base : Int) + (K : Int)) = (F' : Int) := by rw [IntKind.wrap_u64]; omega
              have w1N : IntKind.i64.wrap ((N' : Int) + 1) = ((N' + 1 : Nat) : Int) := by rw [IntKind.wrap_i64]; omega
              have jN : decide ((n : Int) ≤ (N' : Int)) = false := decide_eq_false (by omega)
              have jN2 : decide (n ≤ N') = false := decide_eq_false (by omega)
              have HE := Lib.hid (fun W => ent_call (e := F' + 1) (l := 1) (by omega) (ent_tab hF4' (by omega) (Or.inr rfl)) W)
              clear hMk hB hK hF HH
              simp only at HE
              go_wp2_with fail
              refine (HE.out _).mono ?_
              rintro e w4 ⟨rfl, hb4⟩
              have HB4 := Lib.hid (HB.out.trans (hb4.mono HB.out.size))
              have HX : Hid (BoxE (w4.alloc (.cells #[.int .u64 (F' : Int), .bool true, .bool false, .bool false, .bool false] 74)) w4.heap.size (F', true, false, false, false)) := BoxE.new w4 (F', true, false, false, false)
              have HB5 : Hid (Below w.heap.size w (w4.alloc (.cells #[.int .u64 (F' : Int), .bool true, .bool false, .bool false, .bool false] 74))) := HB4.out.alloc HB4.out.size _
              clear hb4 HB ck HE
              go_upto_region 15 with fail
              generalize (w4.alloc (.cells #[.int .u64 (F' : Int), .bool true, .bool false, .bool false, .bool false] 74)) = w5 at *
              generalize w4.heap.size = X at *
              obtain ⟨x0, x1, x2, x3, x4⟩ := HX.out.cells
              simp only at x0 x2
              clear x1 x3 x4
              go_wp2_with fail
              go_roundw
              case rel => exact ⟨k + 1, N' + 1, by omega, rfl, rfl, hlt', HH2, HB5⟩
              case measure => simp [intOf]; omega
            | false =>
              rw [hB, cond_false] at hMk
              have HH2 : Hid (N' = H2 s.A s.B j (k + 1)) := Lib.hid (by rw [h2_no hB, HH.out])
              have HLb := HL.out (j * 512 + k)
              generalize s.L1 (j * 512 + k) = z at *
              rw [hMk] at ck
              by_cases hz : z = 0
              · subst hz
                have HE := Lib.hid (fun W => ent_call (e := 0) (l := 1) (by omega) (ent_none 1 (Or.inr (Or.inl rfl))) W)
                have HMz := Lib.hid hMk
                clear hMk hB HH HLb
                unfold no at HE
                simp only at HE
                go_wp2_with fail
                refine (HE.out _).mono ?_
                rintro e w4 ⟨rfl, hb4⟩
                have HB4 := Lib.hid (HB.out.trans (hb4.mono HB.out.size))
                have HB5 : Hid (Below w.heap.size w (w4.alloc (.cells #[.int .u64 0, .bool false, .bool false, .bool false, .bool false] 74))) := HB4.out.alloc HB4.out.size _
                clear hb4 HB ck HE
                go_upto_region 15 with fail
                generalize (w4.alloc (.cells #[.int .u64 0, .bool false, .bool false, .bool false, .bool false] 74)) = w5 at *
                have ck : w5.cell? ⟨G, N * 512 + k, none⟩ = some (.int .u64 0) := by
                  have h5 := (HG.out.below HB5.out).cell (p := N * 512 + k) (by omega)
                  rw [HMz.out] at h5
                  exact h5
                go_wp2_with fail
                go_roundw
                case rel => exact ⟨k + 1, N', by omega, rfl, rfl, hN', HH2, HB5⟩
                case measure => simp [intOf]; omega
              · obtain ⟨hz64, F', bw, bx, hent⟩ := HLb hz
                have HE := Lib.hid (fun W => ent_call (e := z) (l := 1) hz64 hent W)
                clear hMk hB HH hent hz HLb
                simp only at HE
                go_wp2_with fail
                refine (HE.out _).mono ?_
                rintro e w4 ⟨rfl, hb4⟩
                have HB4 := Lib.hid (HB.out.trans (hb4.mono HB.out.size))
                have HX : Hid (BoxE (w4.alloc (.cells #[.int .u64 (F' : Int), .bool false, .bool true, .bool bw, .bool bx] 74)) w4.heap.size (F', false, true, bw, bx)) := BoxE.new w4 (F', false, true, bw, bx)
                have HB5 : Hid (Below w.heap.size w (w4.alloc (.cells #[.int .u64 (F' : Int), .bool false, .bool true, .bool bw, .bool bx] 74))) := HB4.out.alloc HB4.out.size _
                clear hb4 HB ck HE
                go_upto_region 15 with fail
                generalize (w4.alloc (.cells #[.int .u64 (F' : Int), .bool false, .bool true, .bool bw, .bool bx] 74)) = w5 at *
                generalize w4.heap.size = X at *
                obtain ⟨x0, x1, x2, x3, x4⟩ := HX.out.cells
                simp only at x2
                clear x0 x1 x3 x4
                go_wp2_with fail
                go_roundw
                case rel => exact ⟨k + 1, N', by omega, rfl, rfl, hN', HH2, HB5⟩
                case measure => simp [intOf]; omega
          · have hk' : k = 512 := by omega
            have jk : ¬ (k : Int) < 512 := by omega
            have HT2 : Hid (N' = T1 s.A s.B (j + 1)) := Lib.hid (by rw [HH.out, hk', h2_end])
            clear HH hk'
            go_wp2_with fail
            go_roundw
            case rel => exact ⟨j + 1, N', by omega, rfl, rfl, hN', HT2, HB⟩
            case measure => simp [intOf]; omega
    · have hj' : j = 512 := by omega
      have jj : ¬ (j : Int) < 512 := by omega
      have hNe : N = n := by rw [HT.out, hj', HTe.out]
      subst hNe
      clear hj'
      go_wp2_with fail
      go_ret
      exact ⟨rfl, HB.out⟩
end Go.Proofs.Ytjfpdphedpnelaa
