/- pages, reach and leaf: down from a root. Own work. -/
import Derived.Test.YtehedllcdpjebaaWkLook
namespace Go.Proofs.Ytehedllcdpjebaa
open Go.RowKit Go.Maps Go.Proofs.Ytehedllcdpjebaa.Sp Wk
/-- how many pages an entry stands for -/
def pgs (l : Nat) : Nat := 512 ^ (2 - l)
set_option maxRecDepth 100000 in
theorem pages_any {l : Nat} (hl : l ≤ 2) (w : World) : Calls Try.prog 20 #[.int .i64 (l : Int)] w fun e w' => e = .returned (.int .i64 (pgs l : Int)) ∧ Below w.heap.size w w' := by
  rcases (show l = 0 ∨ l = 1 ∨ l = 2 by omega) with rfl | rfl | rfl
  all_goals
    go_enter Try.func20, Try.ntmps20
    go_wp2_with fail
    refine bodyPost_ret (v := .int .i64 (pgs _ : Int)) (by simp [results, Try.results20, go_sem, pgs]) rfl ⟨rfl, Below.refl _ _⟩
set_option maxRecDepth 100000 in
theorem reach_any {l : Nat} (hl : l ≤ 2) (w : World) : Calls Try.prog 36 #[.int .i64 (l : Int)] w fun e w' => e = .returned (.int .u64 (4096 * pgs l : Nat)) ∧ Below w.heap.size w w' := by
  have HP : Hid (∀ W, Calls Try.prog 20 #[.int .i64 (l : Int)] W fun e w' => e = .returned (.int .i64 (pgs l : Int)) ∧ Below W.heap.size W w') := fun W => pages_any hl W
  have hp : pgs l = 262144 ∨ pgs l = 512 ∨ pgs l = 1 := by
    rcases (show l = 0 ∨ l = 1 ∨ l = 2 by omega) with rfl | rfl | rfl <;> simp [pgs]
  obtain ⟨p, hpp⟩ : ∃ p, p = pgs l := ⟨_, rfl⟩
  rw [← hpp] at HP hp ⊢
  clear hpp
  go_enter Try.func36, Try.ntmps36
  go_wp2_with fail
  refine (HP.out _).mono ?_
  rintro e w1 ⟨rfl, hb1⟩
  have HB1 : Hid (Below w.heap.size w w1) := hb1
  clear hb1
  go_wp2_with fail
  refine bodyPost_ret (v := .int .u64 (4096 * (p : Int))) (by simp [results, Try.results36, go_sem]) rfl ⟨?_, HB1.out⟩
  rw [Int.natCast_mul]
  rfl
/-- down from a table at level l, at most n tables -/
def LeafR (rs : List Sp) (M : Nat → Nat) (v : Nat) : Nat → Nat → Nat → Ent × Int → Bool → Prop
  | 0, _, _, _, _ => False
  | n + 1, l, t, r, b => ∃ r0 b0, LookR rs M (t + 8 * (v / (4096 * pgs l) % 512)) (l : Int) r0 b0 ∧ (((r0.2 ≠ 0 ∨ r0.1.2.1 = false) ∧ r = r0 ∧ b = b0) ∨ (r0.2 = 0 ∧ r0.1.2.1 = true ∧ LeafR rs M v n (l + 1) r0.1.1 r b))
theorem look_table {rs : List Sp} {M : Nat → Nat} {a l q0 : Nat} {q2 q3 q4 : Bool} {b : Bool} (h : LookR rs M a (l : Int) ((q0, true, q2, q3, q4), 0) b) : b = false ∧ l < 2 ∧ q0 ≤ 18446744073709551615 ∧ q0 % 4096 = 0 := by
  obtain ⟨x, _, hr⟩ := h
  cases b with
  | true => simp at hr
  | false =>
    simp only [Bool.false_eq_true, if_false] at hr
    generalize Pl.num 8 (rdTo M a 8 8) = e at hr
    unfold entB at hr
    split at hr
    · cases hr
    · rename_i hl
      split at hr
      · cases hr
      · split at hr
        · simp only [says, Prod.mk.injEq] at hr
          obtain ⟨⟨h0, h1, _⟩, _⟩ := hr
          refine ⟨rfl, ?_, ?_, ?_⟩
          · have h2 : ¬ l = 2 := by
              rintro rfl
              simp at h1
            omega
          · rw [h0]; unfold fr; omega
          · rw [h0]; unfold fr; omega
        · cases hr
set_option maxRecDepth 100000 in
set_option maxHeartbeats 4000000 in
theorem leaf_any {w : World} {m B : Nat} {V : Value × Value × Value} {T : Nat → Option Nat} {M : Nat → Nat} {rs ds : List Sp} {L S X t v : Nat} (h : Mac w m B V T M rs ds L S X) (ht : t ≤ 18446744073709551615) (h4 : t % 4096 = 0) (hv : v ≤ 18446744073709551615) (hX : X ≤ 4611686018427387904) :
    Calls Try.prog 30 #[MemV m, .int .u64 (t : Int), .int .u64 (v : Int)] w fun e w' => ∃ r b, e = .returned (.tuple #[EntV r.1, .int .i64 r.2]) ∧ LeafR (rs ++ ds) M v 3 0 t r b ∧ Mac w' m B V T M rs ds L S (up b X) ∧ Keeps (fun j => j = m) w w' := by
  have HM : Hid (Mac w m B V T M rs ds L S X) := h
  clear h
  have HLk : Hid (∀ (W : World) (t k : Nat) (l : Int), Mac W m B V T M rs ds L S X → t + 8 * k ≤ 18446744073709551615 → Calls Try.prog 35 #[MemV m, .int .u64 (t : Int), .int .u64 (k : Int), .int .i64 l] W fun e w' => ∃ r b, e = .returned (.tuple #[EntV r.1, .int .i64 r.2]) ∧ LookR (rs ++ ds) M (t + 8 * k) l r b ∧ Mac w' m B V T M rs ds L S (up b X) ∧ Keeps (fun j => j = m) W w') := fun W t k l hW hk => look_any hW hk hX
  have HRe : Hid (∀ (l : Nat), l ≤ 2 → ∀ W, Calls Try.prog 36 #[.int .i64 (l : Int)] W fun e w' => e = .returned (.int .u64 (4096 * pgs l : Nat)) ∧ Below W.heap.size W w') := fun l hl W => reach_any hl W
  have hml := HM.out.lt
  obtain ⟨MV, hMV⟩ : ∃ MV, MV = MemV m := ⟨_, rfl⟩
  rw [← hMV] at HLk ⊢
  clear hMV
  go_enter Try.func30, Try.ntmps30
  go_wp2_with fail
  go_loopw [8, 9] (fun x y wr => ∃ (tt l : Nat), l ≤ 2 ∧ tt ≤ 18446744073709551615 ∧ tt % 4096 = 0 ∧ x = .int .u64 (tt : Int) ∧ y = .int .i64 (l : Int) ∧ Hid (Mac wr m B V T M rs ds L S X) ∧ Hid (Keeps (fun j => j = m) w wr) ∧ Hid (BoxE wr w.heap.size no) ∧ Hid (∀ r b, LeafR (rs ++ ds) M v (3 - l) l tt r b → LeafR (rs ++ ds) M v 3 0 t r b)) (fun _ y _ => match y with | .int _ l => 3 - l.toNat | _ => 0)
  case atStart => exact ⟨t, 0, by omega, ht, h4, rfl, rfl, HM.out.below ((Below.refl _ _).alloc (Nat.le_refl _) _), Keeps.alloc (S := fun j => j = m) w _, BoxE.new w no, fun _ _ h => h⟩
  case round =>
    obtain ⟨tt, l, hl, htt, htt4, rfl, rfl, HMr, HKr, HXr, HLr⟩ := hrel
    have hDp : 0 < 4096 * pgs l := by rcases (show l = 0 ∨ l = 1 ∨ l = 2 by omega) with rfl | rfl | rfl <;> simp [pgs]
    obtain ⟨D, hD⟩ : ∃ D, D = 4096 * pgs l := ⟨_, rfl⟩
    have HD : Hid (D = 4096 * pgs l) := hD
    have hReach := HRe.out l hl
    rw [← hD] at hDp hReach
    have HRe' : Hid (∀ W, Calls Try.prog 36 #[.int .i64 (l : Int)] W fun e w' => e = .returned (.int .u64 (D : Int)) ∧ Below W.heap.size W w') := hReach
    clear hReach hD HRe
    go_wp2_with fail
    refine (HRe'.out _).mono ?_
    rintro e w1 ⟨rfl, hb1⟩
    have HB1 : Hid (Below wr.heap.size wr w1) := hb1
    clear hb1
    have hD0 : (D : Int) ≠ 0 := by omega
    have hqv : v / D ≤ v := Nat.div_le_self _ _
    obtain ⟨q, hq⟩ : ∃ q, q = v / D := ⟨_, rfl⟩
    obtain ⟨k, hk⟩ : ∃ k, k = q % 512 := ⟨_, rfl⟩
    have HK : Hid (k = v / D % 512) := by show _ = _; rw [hk, hq]
    rw [← hq] at hqv
    have hw : IntKind.u64.wrap ((v : Int) / (D : Int)) = (q : Int) := by
      rw [← Int.natCast_ediv, ← hq]
      exact U64.wrap_in (by omega) (by omega)
    have hm : (q : Int).tmod 512 = (k : Int) := by
      rw [Int.tmod_eq_emod_of_nonneg (by omega), hk]
      omega
    have hk5 : k < 512 := by omega
    clear hk hq
    go_wp2_with fail
    clear hw hm hqv
    refine (HLk.out w1 tt k l (HMr.out.below HB1.out) (by omega)).mono ?_
    rintro e w2 ⟨⟨⟨q0, q1, q2, q3, q4⟩, q5⟩, b, rfl, hr, hm2, hk2⟩
    have HR : Hid (LookR (rs ++ ds) M (tt + 8 * k) l ((q0, q1, q2, q3, q4), q5) b) := hr
    have HM2 : Hid (Mac w2 m B V T M rs ds L S (up b X)) := hm2
    have HK2 : Hid (Keeps (fun j => j = m) w w2) := (HKr.out.trans (Keeps.of_below (S := fun _ => False) HB1.out) (fun _ _ h => h.elim)).trans hk2 (fun _ _ e => e)
    have HX2 : Hid (BoxE w2 w.heap.size no) := (HXr.out.below HB1.out).keeps hk2 (by omega)
    clear hr hm2 hk2
    obtain ⟨W3, hW3⟩ : ∃ W3, w2.alloc (Obj.cells #[.int .u64 (q0 : Int), .bool q1, .bool q2, .bool q3, .bool q4] 67) = W3 := ⟨_, rfl⟩
    have HE3 : Hid (BoxE W3 w2.heap.size (q0, q1, q2, q3, q4)) := hW3 ▸ BoxE.new w2 (q0, q1, q2, q3, q4)
    have HX3 : Hid (BoxE W3 w.heap.size no) := hW3 ▸ HX2.out.below ((Below.refl _ _).alloc (Nat.le_refl _) _)
    have HB3 : Hid (Below w2.heap.size w2 W3) := hW3 ▸ (Below.refl _ _).alloc (Nat.le_refl _) _
    have hlt := HX2.out.lt
    have hne : w.heap.size ≠ w2.heap.size := Nat.ne_of_lt hlt
    obtain ⟨y0, y1, y2, y3, y4⟩ := HE3.out.cells
    obtain ⟨x0, x1, x2, x3, x4⟩ := HX3.out.cells
    have f0 := HX3.out.frozen 0
    have f1 := HX3.out.frozen 1
    have f2 := HX3.out.frozen 2
    have f3 := HX3.out.frozen 3
    have f4 := HX3.out.frozen 4
    unfold EntV
    have HEnd : Hid (∀ r b, (r.2 ≠ 0 ∨ r.1.2.1 = false) → LookR (rs ++ ds) M (tt + 8 * k) l r b → LeafR (rs ++ ds) M v 3 0 t r b) := fun r b hc hr => HLr.out r b (by
      rw [show 3 - l = (2 - l) + 1 by omega]
      exact ⟨r, b, by rw [← HD.out, ← HK.out]; exact hr, .inl ⟨hc, rfl, rfl⟩⟩)
    by_cases hq5 : q5 = 0
    · subst hq5
      cases q1 with
      | false =>
        go_wp2_with fail
        obtain ⟨d0, d1, d2, d3, d4⟩ := (HX3.out.put (q0, false, q2, q3, q4)).cells
        refine (fun (h : bodyPost _ _ _ _ _ (putE W3 w.heap.size (q0, false, q2, q3, q4))) => h) ?_
        refine bodyPost_ret (v := .tuple #[EntV (q0, false, q2, q3, q4), .int .i64 0]) (by simp [results, Try.results30, go_sem, EntV, d0, d1, d2, d3, d4]) rfl ?_
        exact ⟨((q0, false, q2, q3, q4), 0), b, rfl, HEnd.out _ _ (.inr rfl) HR.out, (HM2.out.below HB3.out).keeps (putE_keeps _ _ _) (fun j hj e => by have := HM.out.mine_lt hj; omega), (HK2.out.trans (Keeps.of_below (S := fun _ => False) HB3.out) (fun _ _ h => h.elim)).trans (putE_keeps _ _ _) (fun i hi e => absurd e (by omega))⟩
      | true =>
        obtain ⟨rfl, hl2, hq0, hq4⟩ := look_table HR.out
        go_wp2_with fail
        refine ⟨⟨q0, l + 1, by omega, hq0, hq4, rfl, rfl, HM2.out.below HB3.out, HK2.out.trans (Keeps.of_below (S := fun _ => False) HB3.out) (fun _ _ h => h.elim), HX3.out, fun r b hr => HLr.out r b ?_⟩, by show _ < _; simp; omega⟩
        rw [show 3 - l = (3 - (l + 1)) + 1 by omega]
        exact ⟨_, _, by rw [← HD.out, ← HK.out]; exact HR.out, .inr ⟨rfl, rfl, hr⟩⟩
    · go_wp2_with fail
      obtain ⟨d0, d1, d2, d3, d4⟩ := (HX3.out.put (q0, q1, q2, q3, q4)).cells
      refine (fun (h : bodyPost _ _ _ _ _ (putE W3 w.heap.size (q0, q1, q2, q3, q4))) => h) ?_
      refine bodyPost_ret (v := .tuple #[EntV (q0, q1, q2, q3, q4), .int .i64 q5]) (by simp [results, Try.results30, go_sem, EntV, d0, d1, d2, d3, d4]) rfl ?_
      exact ⟨((q0, q1, q2, q3, q4), q5), b, rfl, HEnd.out _ _ (.inl hq5) HR.out, (HM2.out.below HB3.out).keeps (putE_keeps _ _ _) (fun j hj e => by have := HM.out.mine_lt hj; omega), (HK2.out.trans (Keeps.of_below (S := fun _ => False) HB3.out) (fun _ _ h => h.elim)).trans (putE_keeps _ _ _) (fun i hi e => absurd e (by omega))⟩
end Go.Proofs.Ytehedllcdpjebaa
