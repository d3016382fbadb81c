import Derived.Test.YtlplbbnicfeoaaaGreatPq23
import Derived.Lib.Hide
import Derived.Test.YtlplbbnicfeoaaaGreatPq10
import Derived.Test.YtlplbbnicfeoaaaGreatPq14
import Derived.Test.YtlplbbnicfeoaaaGreatPq11
/- pages, reach and leaf: down from a root. Own work. -/
namespace Go.Proofs.YtlplbbnicfeoaaaGreat
open Go.RowKit Go.Maps Go.Proofs.YtlplbbnicfeoaaaGreat.Sp Wk
/-- how many pages an entry stands for -/
def pgs (l : Nat) : Nat := 512 ^ (2 - l)
set_option maxRecDepth 100000 in
theorem pages_any {l : Nat} (hl : l ≤ 2) (w : World) : Calls Tryz.prog 49 #[.int .i64 (l : Int)] w fun e w' => e = .returned (.int .i64 (pgs l : Int)) ∧ Below w.heap.size w w' := by
  rcases (show l = 0 ∨ l = 1 ∨ l = 2 by omega) with rfl | rfl | rfl
  all_goals
    go_enter Tryz.func49, Tryz.ntmps49
    go_wp2_with fail
    refine bodyPost_ret (v := .int .i64 (pgs _ : Int)) (by simp [results, Tryz.results49, go_sem, pgs]) rfl ⟨rfl, Below.refl _ _⟩
set_option maxRecDepth 100000 in
theorem reach_any {l : Nat} (hl : l ≤ 2) (w : World) : Calls Tryz.prog 80 #[.int .i64 (l : Int)] w fun e w' => e = .returned (.int .u64 (4096 * pgs l : Nat)) ∧ Below w.heap.size w w' := by
  have HP : Hid (∀ W, Calls Tryz.prog 49 #[.int .i64 (l : Int)] W fun e w' => e = .returned (.int .i64 (pgs l : Int)) ∧ Below W.heap.size W w') := fun W => pages_any hl W
  have hp : pgs l = 262144 ∨ pgs l = 512 ∨ pgs l = 1 := by
    rcases (show l = 0 ∨ l = 1 ∨ l = 2 by omega) with rfl | rfl | rfl <;> simp [pgs]
  obtain ⟨p, hpp⟩ : ∃ p, p = pgs l := ⟨_, rfl⟩
  rw [← hpp] at HP hp ⊢
  clear hpp
  go_enter Tryz.func80, Tryz.ntmps80
  go_wp2_with fail
  refine (HP.out _).mono ?_
  rintro e w1 ⟨rfl, hb1⟩
  have HB1 : Hid (Below w.heap.size w w1) := hb1
  clear hb1
  go_wp2_with fail
  refine bodyPost_ret (v := .int .u64 (4096 * (p : Int))) (by simp [results, Tryz.results80, go_sem]) rfl ⟨?_, HB1.out⟩
  rw [Int.natCast_mul]
  rfl
/-- down from a table at level l, at most n tables -/
def LeafR (rs : List Sp) (M : Nat → Nat) (v : Nat) : Nat → Nat → Nat → Ent × Int → Bool → Prop
  | 0, _, _, _, _ => False
  | n + 1, l, t, r, b => ∃ r0 b0, LookR rs M (t + 8 * (v / (4096 * pgs l) % 512)) (l : Int) r0 b0 ∧ (((r0.2 ≠ 0 ∨ r0.1.2.1 = false) ∧ r = r0 ∧ b = b0) ∨ (r0.2 = 0 ∧ r0.1.2.1 = true ∧ LeafR rs M v n (l + 1) r0.1.1 r b))
theorem look_table {rs : List Sp} {M : Nat → Nat} {a l q0 : Nat} {q2 q3 q4 : Bool} {b : Bool} (h : LookR rs M a (l : Int) ((q0, true, q2, q3, q4), 0) b) : b = false ∧ l < 2 ∧ q0 ≤ 18446744073709551615 ∧ q0 % 4096 = 0 := by
  obtain ⟨x, _, hr⟩ := h
  cases b with
  | true => simp at hr
  | false =>
    simp only [Bool.false_eq_true, if_false] at hr
    generalize Pl.num 8 (rdTo M a 8 8) = e at hr
    unfold entB at hr
    split at hr
    · cases hr
    · rename_i hl
      split at hr
      · cases hr
      · split at hr
        · simp only [says, Prod.mk.injEq] at hr
          obtain ⟨⟨h0, h1, _⟩, _⟩ := hr
          refine ⟨rfl, ?_, ?_, ?_⟩
          · have h2 : ¬ l = 2 := by
              rintro rfl
              simp at h1
            omega
          · rw [h0]; unfold fr; omega
          · rw [h0]; unfold fr; omega
        · cases hr
set_option maxRecDepth 100000 in
set_option maxHeartbeats 4000000 in
theorem leaf_any {w : World} {m B : Nat} {V : Value × Value × Value} {T : Nat → Option Nat} {M : Nat → Nat} {rs ds : List Sp} {L S X t v : Nat} (h : Mac w m B V T M rs ds L S X) (ht : t ≤ 18446744073709551615) (h4 : t % 4096 = 0) (hv : v ≤ 18446744073709551615) (hX : X ≤ 4611686018427387904) :
    Calls Tryz.prog 77 #[MemV m, .int .u64 (t : Int), .int .u64 (v : Int)] w fun e w' => ∃ r b, e = .returned (.tuple #[EntV r.1, .int .i64 r.2]) ∧ LeafR (rs ++ ds) M v 3 0 t r b ∧ Mac w' m B V T M rs ds L S (up b X) ∧ Keeps (fun j => j = m) w w' := by
  have HM : Hid (Mac w m B V T M rs ds L S X) := h
  clear h
  have HLk : Hid (∀ (W : World) (t k : Nat) (l : Int), Mac W m B V T M rs ds L S X → t + 8 * k ≤ 18446744073709551615 → Calls Tryz.prog 79 #[MemV m, .int .u64 (t : Int), .int .u64 (k : Int), .int .i64 l] W fun e w' => ∃ r b, e = .returned (.tuple #[EntV r.1, .int .i64 r.2]) ∧ LookR (rs ++ ds) M (t + 8 * k) l r b ∧ Mac w' m B V T M rs ds L S (up b X) ∧ Keeps (fun j => j = m) W w') := fun W t k l hW hk => look_any hW hk hX
  have HRe : Hid (∀ (l : Nat), l ≤ 2 → ∀ W, Calls Tryz.prog 80 #[.int .i64 (l : Int)] W fun e w' => e = .returned (.int .u64 (4096 * pgs l : Nat)) ∧ Below W.heap.size W w') := fun l hl W => reach_any hl W
  have hml := HM.out.lt
  obtain ⟨MV, hMV⟩ : ∃ MV, MV = MemV m := ⟨_, rfl⟩
  rw [← hMV] at HLk ⊢
  clear hMV
  go_enter Tryz.func77, Tryz.ntmps77
  go_wp2_with fail
  go_loopw [8, 9] (fun x y wr => ∃ (tt l : Nat), l ≤ 2 ∧ tt ≤ 18446744073709551615 ∧ tt % 4096 = 0 ∧ x = .int .u64 (tt : Int) ∧ y = .int .i64 (l : Int) ∧ Hid (Mac wr m B V T M rs ds L S X) ∧ Hid (Keeps (fun j => j = m) w wr) ∧ Hid (BoxE wr w.heap.size no) ∧ Hid (∀ r b, LeafR (rs ++ ds) M v (3 - l) l tt r b → LeafR (rs ++ ds) M v 3 0 t r b)) (fun _ y _ => match y with | .int _ l => 3 - l.toNat | _ => 0)
  case atStart => exact ⟨t, 0, by omega, ht, h4, rfl, rfl, HM.out.below ((Below.refl _ _).alloc (Nat.le_refl _) _), Keeps.alloc (S := fun j => j = m) w _, BoxE.new w no, fun _ _ h => h⟩
  case round =>
    obtain ⟨tt, l, hl, htt, htt4, rfl, rfl, HMr, HKr, HXr, HLr⟩ := hrel
    have hDp : 0 < 4096 * pgs l := by rcases (show l = 0 ∨ l = 1 ∨ l = 2 by omega) with rfl | rfl | rfl <;> simp [pgs]
    obtain ⟨D, hD⟩ : ∃ D, D = 4096 * pgs l := ⟨_, rfl⟩
    have HD : Hid (D = 4096 * pgs l) := hD
    have hReach := HRe.out l hl
    rw [← hD] at hDp hReach
    have HRe' : Hid (∀ W, Calls Tryz.prog 80 #[.int .i64 (l : Int)] W fun e w' => e = .returned (.int .u64 (D : Int)) ∧ Below W.heap.size W w') := hReach
    clear hReach hD HRe
    go_wp2_with fail
    refine (HRe'.out _).mono ?_
    rintro e w1 ⟨rfl, hb1⟩
    have HB1 : Hid (Below wr.heap.size wr w1) := hb1
    clear hb1
    have hD0 : (D : Int) ≠ 0 := by omega
    have hqv : v / D ≤ v := Nat.div_le_self _ _
    obtain ⟨q, hq⟩ : ∃ q, q = v / D := ⟨_, rfl⟩
    obtain ⟨k, hk⟩ : ∃ k, k = q % 512 := ⟨_, rfl⟩
    have HK : Hid (k = v / D % 512) := by show _ = _; rw [hk, hq]
    rw [← hq] at hqv
    have hw : IntKind.u64.wrap ((v : Int) / (D : Int)) = (q : Int) := by
      rw [← Int.natCast_ediv, ← hq]
      exact U64.wrap_in (by omega) (by omega)
    have hm : (q : Int).tmod 512 = (k : Int) := by
      rw [Int.tmod_eq_emod_of_nonneg (by omega), hk]
      omega
    have hk5 : k < 512 := by omega
    clear hk hq
    go_wp2_with fail
    clear hw hm hqv
    refine (HLk.out w1 tt k l (HMr.out.below HB1.out) (by omega)).mono ?_
    rintro e w2 ⟨⟨⟨q0, q1, q2, q3, q4⟩, q5⟩, b, rfl, hr, hm2, hk2⟩
    have HR : Hid (LookR (rs ++ ds) M (tt + 8 * k) l ((q0, q1, q2, q3, q4), q5) b) := hr
    have HM2 : Hid (Mac w2 m B V T M rs ds L S (up b X)) := hm2
    have HK2 : Hid (Keeps (fun j => j = m) w w2) := (HKr.out.trans (Keeps.of_below (S := fun _ => False) HB1.out) (fun _ _ h => h.elim)).trans hk2 (fun _ _ e => e)
    have HX2 : Hid (BoxE w2 w.heap.size no) := (HXr.out.below HB1.out).keeps hk2 (by omega)
    clear hr hm2 hk2
    obtain ⟨W3, hW3⟩ : ∃ W3, w2.alloc (Obj.cells #[.int .u64 (q0 : Int), .bool q1, .bool q2, .bool q3, .bool q4] 87) = W3 := ⟨_, rfl⟩
    have HE3 : Hid (BoxE W3 w2.heap.size (q0, q1, q2, q3, q4)) := hW3 ▸ BoxE.new w2 (q0, q1, q2, q3, q4)
    have HX3 : Hid (BoxE W3 w.heap.size no) := hW3 ▸ HX2.out.below ((Below.refl _ _).alloc (Nat.le_refl _) _)
    have HB3 : Hid (Below w2.heap.size w2 W3) := hW3 ▸ (Below.refl _ _).alloc (Nat.le_refl _) _
    have hlt := HX2.out.lt
    have hne : w.heap.size ≠ w2.heap.size := Nat.ne_of_lt hlt
    obtain ⟨y0, y1, y2, y3, y4⟩ := HE3.out.cells
    obtain ⟨x0, x1, x2, x3, x4⟩ := HX3.out.cells
    have f0 := HX3.out.frozen 0
    have f1 := HX3.out.frozen 1
    have f2 := HX3.out.frozen 2
    have f3 := HX3.out.frozen 3
    have f4 := HX3.out.frozen 4
    unfold EntV
    have HEnd : Hid (∀ r b, (r.2 ≠ 0 ∨ r.1.2.1 = false) → LookR (rs ++ ds) M (tt + 8 * k) l r b → LeafR (rs ++ ds) M v 3 0 t r b) := fun r b hc hr => HLr.out r b (by
      rw [show 3 - l = (2 - l) + 1 by omega]
      exact ⟨r, b, by rw [← HD.out, ← HK.out]; exact hr, .inl ⟨hc, rfl, rfl⟩⟩)
    by_cases hq5 : q5 = 0
    · subst hq5
      cases q1 with
      | false =>
        go_wp2_with fail
        obtain ⟨d0, d1, d2, d3, d4⟩ := (HX3.out.put (q0, false, q2, q3, q4)).cells
        refine (fun (h : bodyPost _ _ _ _ _ (putE W3 w.heap.size (q0, false, q2, q3, q4))) => h) ?_
        refine bodyPost_ret (v := .tuple #[EntV (q0, false, q2, q3, q4), .int .i64 0]) (by simp [results, Tryz.results77, go_sem, EntV, d0, d1, d2, d3, d4]) rfl ?_
        exact ⟨((q0, false, q2, q3, q4), 0), b, rfl, HEnd.out _ _ (.inr rfl) HR.out, (HM2.out.below HB3.out).keeps (putE_keeps _ _ _) (fun j hj e => by have := HM.out.mine_lt hj; omega), (HK2.out.trans (Keeps.of_below (S := fun _ => False) HB3.out) (fun _ _ h => h.elim)).trans (putE_keeps _ _ _) (fun i hi e => absurd e (by omega))⟩
      | true =>
        obtain ⟨rfl, hl2, hq0, hq4⟩ := look_table HR.out
        go_wp2_with fail
        refine ⟨⟨q0, l + 1, by omega, hq0, hq4, rfl, rfl, HM2.out.below HB3.out, HK2.out.trans (Keeps.of_below (S := fun _ => False) HB3.out) (fun _ _ h => h.elim), HX3.out, fun r b hr => HLr.out r b ?_⟩, by show _ < _; simp; omega⟩
        rw [show 3 - l = (3 - (l + 1)) + 1 by omega]
        exact ⟨_, _, by rw [← HD.out, ← HK.out]; exact HR.out, .inr ⟨rfl, rfl, hr⟩⟩
    · go_wp2_with fail
      obtain ⟨d0, d1, d2, d3, d4⟩ := (HX3.out.put (q0, q1, q2, q3, q4)).cells
      refine (fun (h : bodyPost _ _ _ _ _ (putE W3 w.heap.size (q0, q1, q2, q3, q4))) => h) ?_
      refine bodyPost_ret (v := .tuple #[EntV (q0, q1, q2, q3, q4), .int .i64 q5]) (by simp [results, Tryz.results77, go_sem, EntV, d0, d1, d2, d3, d4]) rfl ?_
      exact ⟨((q0, q1, q2, q3, q4), q5), b, rfl, HEnd.out _ _ (.inl hq5) HR.out, (HM2.out.below HB3.out).keeps (putE_keeps _ _ _) (fun j hj e => by have := HM.out.mine_lt hj; omega), (HK2.out.trans (Keeps.of_below (S := fun _ => False) HB3.out) (fun _ _ h => h.elim)).trans (putE_keeps _ _ _) (fun i hi e => absurd e (by omega))⟩
end Go.Proofs.YtlplbbnicfeoaaaGreat
/- address and Translate over a machine. Own work. -/
namespace Go.Proofs.YtlplbbnicfeoaaaGreat
open Go.RowKit Go.Maps Go.Proofs.YtlplbbnicfeoaaaGreat.Sp Wk
theorem look_frame {rs : List Sp} {M : Nat → Nat} {a : Nat} {l : Int} {r : Ent × Int} {b : Bool} (h : LookR rs M a l r b) : r.1.1 ≤ 4294963200 := by
  obtain ⟨x, _, rfl⟩ := h
  cases b with
  | true => simp [no]
  | false =>
    simp only [Bool.false_eq_true, if_false]
    unfold entB
    split
    · simp [no]
    · split
      · simp [no]
      · split
        · show fr _ ≤ _
          unfold fr
          omega
        · simp [no]
theorem leaf_frame {rs : List Sp} {M : Nat → Nat} {v : Nat} {r : Ent × Int} {b : Bool} : ∀ {n l t : Nat}, LeafR rs M v n l t r b → r.1.1 ≤ 4294963200
  | 0, _, _, h => h.elim
  | n + 1, l, t, h => by
    obtain ⟨r0, b0, h0, h1 | h1⟩ := h
    · rw [h1.2.1]
      exact look_frame h0
    · exact leaf_frame h1.2.2
/-- where the leaf leads, or why not -/
def addrB (e : Ent × Int) (acc : Int) (v : Nat) : Nat × Int :=
  if e.2 ≠ 0 then (0, e.2) else if acc = 2 ∧ e.1.2.2.2.1 = false then (0, 43) else if acc = 3 ∧ e.1.2.2.2.2 = false then (0, 44) else if e.1.2.2.1 = true then (e.1.1 + v % 2097152, 0) else (e.1.1 + v % 4096, 0)
def AddrR (rs : List Sp) (M : Nat → Nat) (t v : Nat) (acc : Int) (r : Nat × Int) (b : Bool) : Prop :=
  if acc ≠ 1 ∧ acc ≠ 2 ∧ acc ≠ 3 then r = (0, 1) ∧ b = false
  else if 549755813888 ≤ v then r = (0, 40) ∧ b = false
  else if t % 4096 ≠ 0 then r = (0, 42) ∧ b = false
  else ∃ e, LeafR rs M v 3 0 t e b ∧ r = addrB e acc v
def AddrPost (w : World) (m B : Nat) (V : Value × Value × Value) (T : Nat → Option Nat) (M : Nat → Nat) (rs ds : List Sp) (L S X t v : Nat) (acc : Int) (e : Ending) (w' : World) : Prop :=
  ∃ (r : Nat × Int) (b : Bool), e = .returned (.tuple #[.int .u64 (r.1 : Int), .int .i64 r.2]) ∧ AddrR (rs ++ ds) M t v acc r b ∧ Mac w' m B V T M rs ds L S (up b X) ∧ Keeps (fun j => j = m) w w'
set_option maxRecDepth 100000 in
set_option maxHeartbeats 8000000 in
theorem address_any {w : World} {m B : Nat} {V : Value × Value × Value} {T : Nat → Option Nat} {M : Nat → Nat} {rs ds : List Sp} {L S X t v : Nat} {acc : Int} (h : Mac w m B V T M rs ds L S X) (ht : t ≤ 18446744073709551615) (hv : v ≤ 18446744073709551615) (hX : X ≤ 4611686018427387904) :
    Calls Tryz.prog 46 #[MemV m, .int .u64 (t : Int), .int .u64 (v : Int), .int .i64 acc] w (AddrPost w m B V T M rs ds L S X t v acc) := by
  have HM : Hid (Mac w m B V T M rs ds L S X) := h
  clear h
  have HLf : Hid (t % 4096 = 0 → Calls Tryz.prog 77 #[MemV m, .int .u64 (t : Int), .int .u64 (v : Int)] w fun e w' => ∃ r b, e = .returned (.tuple #[EntV r.1, .int .i64 r.2]) ∧ LeafR (rs ++ ds) M v 3 0 t r b ∧ Mac w' m B V T M rs ds L S (up b X) ∧ Keeps (fun j => j = m) w w') := fun h4 => leaf_any HM.out ht h4 hv hX
  have hml := HM.out.lt
  have HS : Hid (∀ r, AddrR (rs ++ ds) M t v acc r false → ∃ (r' : Nat × Int) (b : Bool), (Ending.returned (.tuple #[.int .u64 (r.1 : Int), .int .i64 r.2])) = .returned (.tuple #[.int .u64 (r'.1 : Int), .int .i64 r'.2]) ∧ AddrR (rs ++ ds) M t v acc r' b ∧ Mac w m B V T M rs ds L S (up b X) ∧ Keeps (fun j => j = m) w w) := fun r hr => ⟨r, false, rfl, hr, HM.out, Keeps.refl _ _⟩
  obtain ⟨t4, ht4⟩ : ∃ t4, t4 = t % 4096 := ⟨_, rfl⟩
  obtain ⟨vb, hvb⟩ : ∃ vb, vb = v % 2097152 := ⟨_, rfl⟩
  obtain ⟨vp, hvp⟩ : ∃ vp, vp = v % 4096 := ⟨_, rfl⟩
  have HT4 : Hid (t4 = t % 4096) := ht4
  have HVb : Hid (vb = v % 2097152) := hvb
  have HVp : Hid (vp = v % 4096) := hvp
  have e4 : (t : Int).tmod 4096 = (t4 : Int) := by rw [Int.tmod_eq_emod_of_nonneg (by omega), ht4]; omega
  have eb : (v : Int).tmod 2097152 = (vb : Int) := by rw [Int.tmod_eq_emod_of_nonneg (by omega), hvb]; omega
  have ep : (v : Int).tmod 4096 = (vp : Int) := by rw [Int.tmod_eq_emod_of_nonneg (by omega), hvp]; omega
  have lb : vb < 2097152 := by omega
  have lp : vp < 4096 := by omega
  clear ht4 hvb hvp
  unfold MemV at HLf ⊢
  obtain ⟨vi, hvi⟩ : ∃ vi : Int, vi = (v : Int) := ⟨_, rfl⟩
  rw [← hvi] at HLf eb ep ⊢
  have HVi : Hid (vi = (v : Int)) := hvi
  have hvi0 : 0 ≤ vi := by omega
  have hvi1 : vi ≤ 18446744073709551615 := by omega
  clear hvi hv
  go_enter Tryz.func46, Tryz.ntmps46
  by_cases hacc : acc ≠ 1 ∧ acc ≠ 2 ∧ acc ≠ 3
  · obtain ⟨h1, h2, h3⟩ := hacc
    have b1 : (acc != 1) = true := by simpa using h1
    have b2 : (acc != 2) = true := by simpa using h2
    have b3 : (acc != 3) = true := by simpa using h3
    go_wp2_with fail
    refine bodyPost_ret (v := .tuple #[.int .u64 ((0 : Nat) : Int), .int .i64 1]) (by simp [results, Tryz.results46, go_sem]) rfl ?_
    exact HS.out (0, 1) (by unfold AddrR; rw [if_pos ⟨h1, h2, h3⟩]; exact ⟨rfl, rfl⟩)
  · have hac : acc = 1 ∨ acc = 2 ∨ acc = 3 := by omega
    by_cases hvm : 549755813888 ≤ v
    · have HAll : Hid (AddrR (rs ++ ds) M t v acc (0, 40) false) := by show AddrR _ _ _ _ _ _ _; unfold AddrR; rw [if_neg hacc, if_pos hvm]; exact ⟨rfl, rfl⟩
      have hvm' : 549755813888 ≤ vi := by have := HVi.out; omega
      clear hacc hvm
      rcases hac with rfl | rfl | rfl
      all_goals
        go_wp2_with fail
        refine bodyPost_ret (v := .tuple #[.int .u64 ((0 : Nat) : Int), .int .i64 40]) (by simp [results, Tryz.results46, go_sem]) rfl ?_
        exact HS.out (0, 40) HAll.out
    · by_cases h4 : t4 = 0
      · have HAll : Hid (∀ e r b, LeafR (rs ++ ds) M v 3 0 t e b → r = addrB e acc v → AddrR (rs ++ ds) M t v acc r b) := fun e r b he hr => by
          unfold AddrR
          rw [if_neg hacc, if_neg hvm, if_neg (by rw [← HT4.out]; omega)]
          exact ⟨e, he, hr⟩
        have hvm' : vi < 549755813888 := by have := HVi.out; omega
        clear hacc HS hvm
        subst h4
        rcases hac with rfl | rfl | rfl
        · go_wp2_with fail
          refine (HLf.out HT4.out.symm).mono ?_
          rintro e w1 ⟨⟨⟨q0, q1, q2, q3, q4⟩, q5⟩, b, rfl, hr, hm1, hk1⟩
          have HR : Hid (LeafR (rs ++ ds) M v 3 0 t ((q0, q1, q2, q3, q4), q5) b) := hr
          have hq0 : q0 ≤ 4294963200 := leaf_frame hr
          have HM1 : Hid (Mac w1 m B V T M rs ds L S (up b X)) := hm1
          have HK1 : Hid (Keeps (fun j => j = m) w w1) := hk1
          clear hr hm1 hk1 HLf
          obtain ⟨W2, hW2⟩ : ∃ W2, w1.alloc (Obj.cells #[.int .u64 (q0 : Int), .bool q1, .bool q2, .bool q3, .bool q4] 87) = W2 := ⟨_, rfl⟩
          have HE2 : Hid (BoxE W2 w1.heap.size (q0, q1, q2, q3, q4)) := hW2 ▸ BoxE.new w1 (q0, q1, q2, q3, q4)
          have HB2 : Hid (Below w1.heap.size w1 W2) := hW2 ▸ (Below.refl _ _).alloc (Nat.le_refl _) _
          have HZ : Hid (∀ r : Nat × Int, r = addrB ((q0, q1, q2, q3, q4), q5) 1 v → AddrPost w m B V T M rs ds L S X t v 1 (.returned (.tuple #[.int .u64 (r.1 : Int), .int .i64 r.2])) W2) := fun r hr => ⟨r, b, rfl, HAll.out _ _ _ HR.out hr, HM1.out.below HB2.out, HK1.out.trans (Keeps.of_below (S := fun _ => False) HB2.out) (fun _ _ h => h.elim)⟩
          obtain ⟨y0, y1, y2, y3, y4⟩ := HE2.out.cells
          have z4 := HE2.out.frozen 4
          unfold EntV
          by_cases hq5 : q5 = 0
          · subst hq5
            cases q2 with
            | true =>
              go_wp2_with fail
              refine bodyPost_ret (v := .tuple #[.int .u64 ((q0 : Int) + (vb : Int)), .int .i64 0]) (by simp [results, Tryz.results46, go_sem]) rfl ?_
              exact HZ.out (q0 + vb, 0) (by simp [addrB, HVb.out])
            | false =>
              go_wp2_with fail
              refine bodyPost_ret (v := .tuple #[.int .u64 ((q0 : Int) + (vp : Int)), .int .i64 0]) (by simp [results, Tryz.results46, go_sem]) rfl ?_
              exact HZ.out (q0 + vp, 0) (by simp [addrB, HVp.out])
          · go_wp2_with fail
            refine bodyPost_ret (v := .tuple #[.int .u64 ((0 : Nat) : Int), .int .i64 q5]) (by simp [results, Tryz.results46, go_sem]) rfl ?_
            exact HZ.out (0, q5) (by simp [addrB, hq5])
        · go_wp2_with fail
          refine (HLf.out HT4.out.symm).mono ?_
          rintro e w1 ⟨⟨⟨q0, q1, q2, q3, q4⟩, q5⟩, b, rfl, hr, hm1, hk1⟩
          have HR : Hid (LeafR (rs ++ ds) M v 3 0 t ((q0, q1, q2, q3, q4), q5) b) := hr
          have hq0 : q0 ≤ 4294963200 := leaf_frame hr
          have HM1 : Hid (Mac w1 m B V T M rs ds L S (up b X)) := hm1
          have HK1 : Hid (Keeps (fun j => j = m) w w1) := hk1
          clear hr hm1 hk1 HLf
          obtain ⟨W2, hW2⟩ : ∃ W2, w1.alloc (Obj.cells #[.int .u64 (q0 : Int), .bool q1, .bool q2, .bool q3, .bool q4] 87) = W2 := ⟨_, rfl⟩
          have HE2 : Hid (BoxE W2 w1.heap.size (q0, q1, q2, q3, q4)) := hW2 ▸ BoxE.new w1 (q0, q1, q2, q3, q4)
          have HB2 : Hid (Below w1.heap.size w1 W2) := hW2 ▸ (Below.refl _ _).alloc (Nat.le_refl _) _
          have HZ : Hid (∀ r : Nat × Int, r = addrB ((q0, q1, q2, q3, q4), q5) 2 v → AddrPost w m B V T M rs ds L S X t v 2 (.returned (.tuple #[.int .u64 (r.1 : Int), .int .i64 r.2])) W2) := fun r hr => ⟨r, b, rfl, HAll.out _ _ _ HR.out hr, HM1.out.below HB2.out, HK1.out.trans (Keeps.of_below (S := fun _ => False) HB2.out) (fun _ _ h => h.elim)⟩
          obtain ⟨y0, y1, y2, y3, y4⟩ := HE2.out.cells
          have z4 := HE2.out.frozen 4
          unfold EntV
          by_cases hq5 : q5 = 0
          · subst hq5
            cases q3 with
            | false =>
              go_wp2_with fail
              refine bodyPost_ret (v := .tuple #[.int .u64 ((0 : Nat) : Int), .int .i64 43]) (by simp [results, Tryz.results46, go_sem]) rfl ?_
              exact HZ.out (0, 43) (by simp [addrB])
            | true =>
              cases q2 with
              | true =>
                go_wp2_with fail
                refine bodyPost_ret (v := .tuple #[.int .u64 ((q0 : Int) + (vb : Int)), .int .i64 0]) (by simp [results, Tryz.results46, go_sem]) rfl ?_
                exact HZ.out (q0 + vb, 0) (by simp [addrB, HVb.out])
              | false =>
                go_wp2_with fail
                refine bodyPost_ret (v := .tuple #[.int .u64 ((q0 : Int) + (vp : Int)), .int .i64 0]) (by simp [results, Tryz.results46, go_sem]) rfl ?_
                exact HZ.out (q0 + vp, 0) (by simp [addrB, HVp.out])
          · go_wp2_with fail
            refine bodyPost_ret (v := .tuple #[.int .u64 ((0 : Nat) : Int), .int .i64 q5]) (by simp [results, Tryz.results46, go_sem]) rfl ?_
            exact HZ.out (0, q5) (by simp [addrB, hq5])
        · go_wp2_with fail
          refine (HLf.out HT4.out.symm).mono ?_
          rintro e w1 ⟨⟨⟨q0, q1, q2, q3, q4⟩, q5⟩, b, rfl, hr, hm1, hk1⟩
          have HR : Hid (LeafR (rs ++ ds) M v 3 0 t ((q0, q1, q2, q3, q4), q5) b) := hr
          have hq0 : q0 ≤ 4294963200 := leaf_frame hr
          have HM1 : Hid (Mac w1 m B V T M rs ds L S (up b X)) := hm1
          have HK1 : Hid (Keeps (fun j => j = m) w w1) := hk1
          clear hr hm1 hk1 HLf
          obtain ⟨W2, hW2⟩ : ∃ W2, w1.alloc (Obj.cells #[.int .u64 (q0 : Int), .bool q1, .bool q2, .bool q3, .bool q4] 87) = W2 := ⟨_, rfl⟩
          have HE2 : Hid (BoxE W2 w1.heap.size (q0, q1, q2, q3, q4)) := hW2 ▸ BoxE.new w1 (q0, q1, q2, q3, q4)
          have HB2 : Hid (Below w1.heap.size w1 W2) := hW2 ▸ (Below.refl _ _).alloc (Nat.le_refl _) _
          have HZ : Hid (∀ r : Nat × Int, r = addrB ((q0, q1, q2, q3, q4), q5) 3 v → AddrPost w m B V T M rs ds L S X t v 3 (.returned (.tuple #[.int .u64 (r.1 : Int), .int .i64 r.2])) W2) := fun r hr => ⟨r, b, rfl, HAll.out _ _ _ HR.out hr, HM1.out.below HB2.out, HK1.out.trans (Keeps.of_below (S := fun _ => False) HB2.out) (fun _ _ h => h.elim)⟩
          obtain ⟨y0, y1, y2, y3, y4⟩ := HE2.out.cells
          have z4 := HE2.out.frozen 4
          unfold EntV
          by_cases hq5 : q5 = 0
          · subst hq5
            cases q4 with
            | false =>
              go_wp2_with fail
              refine bodyPost_ret (v := .tuple #[.int .u64 ((0 : Nat) : Int), .int .i64 44]) (by simp [results, Tryz.results46, go_sem]) rfl ?_
              exact ⟨(0, 44), b, rfl, HAll.out _ _ _ HR.out (by simp [addrB]), (HM1.out.below HB2.out).keeps (Keeps.setCell _ w1.heap.size _ _) (fun j hj e => by have := HM.out.mine_lt hj; have := HK1.out.size; omega), (HK1.out.trans (Keeps.of_below (S := fun _ => False) HB2.out) (fun _ _ h => h.elim)).trans (Keeps.setCell _ w1.heap.size _ _) (fun i hi e => absurd e (by have := HK1.out.size; omega))⟩
            | true =>
              cases q2 with
              | true =>
                go_wp2_with fail
                refine bodyPost_ret (v := .tuple #[.int .u64 ((q0 : Int) + (vb : Int)), .int .i64 0]) (by simp [results, Tryz.results46, go_sem]) rfl ?_
                exact HZ.out (q0 + vb, 0) (by simp [addrB, HVb.out])
              | false =>
                go_wp2_with fail
                refine bodyPost_ret (v := .tuple #[.int .u64 ((q0 : Int) + (vp : Int)), .int .i64 0]) (by simp [results, Tryz.results46, go_sem]) rfl ?_
                exact HZ.out (q0 + vp, 0) (by simp [addrB, HVp.out])
          · go_wp2_with fail
            refine bodyPost_ret (v := .tuple #[.int .u64 ((0 : Nat) : Int), .int .i64 q5]) (by simp [results, Tryz.results46, go_sem]) rfl ?_
            exact HZ.out (0, q5) (by simp [addrB, hq5])
      · have HAll : Hid (AddrR (rs ++ ds) M t v acc (0, 42) false) := by show AddrR _ _ _ _ _ _ _; unfold AddrR; rw [if_neg hacc, if_neg hvm, if_pos (by rw [← HT4.out]; exact h4)]; exact ⟨rfl, rfl⟩
        have hvm' : vi < 549755813888 := by have := HVi.out; omega
        clear hacc hvm
        rcases hac with rfl | rfl | rfl
        all_goals
          go_wp2_with fail
          refine bodyPost_ret (v := .tuple #[.int .u64 ((0 : Nat) : Int), .int .i64 42]) (by simp [results, Tryz.results46, go_sem]) rfl ?_
          exact HS.out (0, 42) HAll.out
end Go.Proofs.YtlplbbnicfeoaaaGreat
/- Where an address leads, as a function; Translate over a machine. Own work. -/
namespace Go.Proofs.YtlplbbnicfeoaaaGreat
open Go.RowKit Go.Maps Go.Proofs.YtlplbbnicfeoaaaGreat.Sp Wk
open Classical in
noncomputable def lookF (rs : List Sp) (M : Nat → Nat) (a : Nat) (l : Int) : Ent × Int := if ∀ i : Nat, i < 8 → On rs ((a : Int) + i) then entB (Pl.num 8 (rdTo M a 8 8)) l else (no, 42)
theorem look_is {rs : List Sp} {M : Nat → Nat} {a : Nat} {l : Int} {r : Ent × Int} {b : Bool} (h : LookR rs M a l r b) : r = lookF rs M a l := by
  obtain ⟨x, ho, rfl⟩ := h
  unfold lookF
  cases b with
  | true =>
    obtain ⟨i, hi, _, _, hn, _⟩ := ho.1 rfl
    show (no, 42) = _
    rw [if_neg (fun h => hn (h i hi))]
  | false =>
    show entB _ _ = _
    rw [if_pos (ho.2 rfl).2]
noncomputable def leafF (rs : List Sp) (M : Nat → Nat) (v : Nat) : Nat → Nat → Nat → Ent × Int
  | 0, _, _ => (no, 42)
  | n + 1, l, t => if (lookF rs M (t + 8 * (v / (4096 * pgs l) % 512)) (l : Int)).2 ≠ 0 ∨ (lookF rs M (t + 8 * (v / (4096 * pgs l) % 512)) (l : Int)).1.2.1 = false then lookF rs M (t + 8 * (v / (4096 * pgs l) % 512)) (l : Int) else leafF rs M v n (l + 1) (lookF rs M (t + 8 * (v / (4096 * pgs l) % 512)) (l : Int)).1.1
theorem leaf_is {rs : List Sp} {M : Nat → Nat} {v : Nat} {r : Ent × Int} {b : Bool} : ∀ {n l t : Nat}, LeafR rs M v n l t r b → r = leafF rs M v n l t
  | 0, _, _, h => h.elim
  | n + 1, l, t, h => by
    obtain ⟨r0, b0, h0, h1⟩ := h
    have e := look_is h0
    rw [leafF, ← e]
    rcases h1 with ⟨h1, h2, _⟩ | ⟨h1, h2, h3⟩
    · rw [if_pos h1, h2]
    · rw [if_neg (by simp [h1, h2])]
      exact leaf_is h3
noncomputable def adrF (rs : List Sp) (M : Nat → Nat) (t v : Nat) (acc : Int) : Nat × Int :=
  if acc ≠ 1 ∧ acc ≠ 2 ∧ acc ≠ 3 then (0, 1) else if 549755813888 ≤ v then (0, 40) else if t % 4096 ≠ 0 then (0, 42) else addrB (leafF rs M v 3 0 t) acc v
theorem addr_is {rs : List Sp} {M : Nat → Nat} {t v : Nat} {acc : Int} {r : Nat × Int} {b : Bool} (h : AddrR rs M t v acc r b) : r = adrF rs M t v acc := by
  unfold AddrR at h
  unfold adrF
  split at h
  · rw [if_pos (by assumption)]; exact h.1
  · rename_i h1
    rw [if_neg h1]
    split at h
    · rw [if_pos (by assumption)]; exact h.1
    · rename_i h2
      rw [if_neg h2]
      split at h
      · rw [if_pos (by assumption)]; exact h.1
      · rename_i h3
        rw [if_neg h3]
        obtain ⟨e, h4, h5⟩ := h
        rw [h5, leaf_is h4]
theorem addrB_zero {e : Ent × Int} {acc : Int} {v : Nat} (h : (addrB e acc v).2 ≠ 0) : (addrB e acc v).1 = 0 := by
  unfold addrB at h ⊢
  split
  · rfl
  · split
    · rfl
    · split
      · rfl
      · rename_i h1 h2 h3
        rw [if_neg h1, if_neg h2, if_neg h3] at h
        split at h <;> exact absurd rfl h
theorem adrF_zero {rs : List Sp} {M : Nat → Nat} {t v : Nat} {acc : Int} (h : (adrF rs M t v acc).2 ≠ 0) : (adrF rs M t v acc).1 = 0 := by
  unfold adrF at h ⊢
  split
  · rfl
  · rename_i h1
    rw [if_neg h1] at h
    split
    · rfl
    · rename_i h2
      rw [if_neg h2] at h
      split
      · rfl
      · rename_i h3
        rw [if_neg h3] at h
        exact addrB_zero h
theorem lookF_frame (rs : List Sp) (M : Nat → Nat) (a : Nat) (l : Int) : (lookF rs M a l).1.1 ≤ 4294963200 := by
  unfold lookF
  by_cases h : ∀ i : Nat, i < 8 → On rs ((a : Int) + i)
  · rw [if_pos h]
    exact look_frame (rs := rs) (M := M) (a := a) (l := l) (b := false) ⟨0, ⟨fun h => (by cases h), fun _ => ⟨rfl, h⟩⟩, rfl⟩
  · rw [if_neg h]
    show (0 : Nat) ≤ _
    omega
theorem leafF_frame (rs : List Sp) (M : Nat → Nat) (v : Nat) : ∀ n l t, (leafF rs M v n l t).1.1 ≤ 4294963200
  | 0, _, _ => Nat.zero_le _
  | n + 1, l, t => by
    rw [leafF]
    split
    · exact lookF_frame _ _ _ _
    · exact leafF_frame rs M v n _ _
theorem adrF_le (rs : List Sp) (M : Nat → Nat) (t v : Nat) (acc : Int) : (adrF rs M t v acc).1 ≤ 18446744073709551615 := by
  unfold adrF
  split
  · exact Nat.zero_le _
  · split
    · exact Nat.zero_le _
    · split
      · exact Nat.zero_le _
      · have := leafF_frame rs M v 3 0 t
        unfold addrB
        split
        · exact Nat.zero_le _
        · split
          · exact Nat.zero_le _
          · split
            · exact Nat.zero_le _
            · split
              · show _ + v % 2097152 ≤ _; omega
              · show _ + v % 4096 ≤ _; omega
/-- a machine whose meter is at most n -/
def Mx (w : World) (m B : Nat) (V : Value × Value × Value) (T : Nat → Option Nat) (M : Nat → Nat) (rs ds : List Sp) (n : Nat) : Prop := ∃ L S X, L ≤ n ∧ S ≤ n ∧ X ≤ n ∧ Mac w m B V T M rs ds L S X
theorem Mx.mono {w : World} {m B : Nat} {V : Value × Value × Value} {T : Nat → Option Nat} {M : Nat → Nat} {rs ds : List Sp} {n k : Nat} (h : Mx w m B V T M rs ds n) (hk : n ≤ k) : Mx w m B V T M rs ds k := by
  obtain ⟨L, S, X, h1, h2, h3, h4⟩ := h
  exact ⟨L, S, X, by omega, by omega, by omega, h4⟩
theorem Mx.keeps {Z : Nat → Prop} {w w' : World} {m B : Nat} {V : Value × Value × Value} {T : Nat → Option Nat} {M : Nat → Nat} {rs ds : List Sp} {n : Nat} (h : Mx w m B V T M rs ds n) (hk : Keeps Z w w') (hn : ∀ j, Mine m B V T j → ¬ Z j) : Mx w' m B V T M rs ds n := by
  obtain ⟨L, S, X, h1, h2, h3, h4⟩ := h
  exact ⟨L, S, X, h1, h2, h3, h4.keeps hk hn⟩
theorem Mx.below {w w' : World} {m B : Nat} {V : Value × Value × Value} {T : Nat → Option Nat} {M : Nat → Nat} {rs ds : List Sp} {n : Nat} (h : Mx w m B V T M rs ds n) (hb : Below w.heap.size w w') : Mx w' m B V T M rs ds n :=
  h.keeps (Keeps.of_below (S := fun _ => False) hb) (fun _ _ h => h)
theorem Mx.lt {w : World} {m B : Nat} {V : Value × Value × Value} {T : Nat → Option Nat} {M : Nat → Nat} {rs ds : List Sp} {n : Nat} (h : Mx w m B V T M rs ds n) : m < w.heap.size := by
  obtain ⟨L, S, X, _, _, _, h4⟩ := h
  exact h4.lt
theorem Mx.mine_lt {w : World} {m B : Nat} {V : Value × Value × Value} {T : Nat → Option Nat} {M : Nat → Nat} {rs ds : List Sp} {n : Nat} (h : Mx w m B V T M rs ds n) {j : Nat} (hj : Mine m B V T j) : j < w.heap.size := by
  obtain ⟨L, S, X, _, _, _, h4⟩ := h
  exact h4.mine_lt hj
theorem Mac.sane {w : World} {m B : Nat} {V : Value × Value × Value} {T : Nat → Option Nat} {M : Nat → Nat} {rs ds : List Sp} {L S X : Nat} (h : Mac w m B V T M rs ds L S X) : Sane (rs ++ ds) := by
  obtain ⟨_, _, _, _, _, _, _, h6, _⟩ := h
  exact h6
theorem Mx.sane {w : World} {m B : Nat} {V : Value × Value × Value} {T : Nat → Option Nat} {M : Nat → Nat} {rs ds : List Sp} {n : Nat} (h : Mx w m B V T M rs ds n) : Sane (rs ++ ds) := by
  obtain ⟨L, S, X, _, _, _, h4⟩ := h
  exact h4.sane
/-- the Fault of an address: none, or why, at the address -/
def whyAt (why : Int) (v : Nat) : Nat := if why = 0 then 0 else v
set_option maxRecDepth 100000 in
set_option maxHeartbeats 4000000 in
theorem translate_any {w : World} {m B : Nat} {V : Value × Value × Value} {T : Nat → Option Nat} {M : Nat → Nat} {rs ds : List Sp} {n t v : Nat} {acc : Int} (h : Mx w m B V T M rs ds n) (ht : t ≤ 18446744073709551615) (hv : v ≤ 18446744073709551615) (hn : n ≤ 4611686018427387904) :
    Calls Tryz.prog 19 #[MemV m, .int .u64 (t : Int), .int .u64 (v : Int), .int .i64 acc] w fun e w' => e = .returned (.tuple #[.int .u64 ((adrF (rs ++ ds) M t v acc).1 : Int), FaultV (adrF (rs ++ ds) M t v acc).2 (whyAt (adrF (rs ++ ds) M t v acc).2 v : Int)]) ∧ Hid (Mx w' m B V T M rs ds (n + 1)) ∧ Hid (Keeps (fun j => j = m) w w') := by
  have HX : Hid (Mx w m B V T M rs ds n) := h
  have hml := h.lt
  obtain ⟨r, hr⟩ : ∃ r, r = adrF (rs ++ ds) M t v acc := ⟨_, rfl⟩
  have HZ : Hid (r.2 ≠ 0 → r.1 = 0) := by rw [hr]; exact adrF_zero
  have HA : Hid (Calls Tryz.prog 46 #[MemV m, .int .u64 (t : Int), .int .u64 (v : Int), .int .i64 acc] (w.alloc (Obj.cells #[.int .i64 0, .int .u64 0] 57)) fun e w' => e = .returned (.tuple #[.int .u64 (r.1 : Int), .int .i64 r.2]) ∧ Hid (Mx w' m B V T M rs ds (n + 1)) ∧ Hid (Keeps (fun j => j = m) (w.alloc (Obj.cells #[.int .i64 0, .int .u64 0] 57)) w')) := by
    obtain ⟨L, S, X, h1, h2, h3, h4⟩ := h
    refine (address_any (h4.below ((Below.refl _ _).alloc (Nat.le_refl _) _)) ht hv (by omega)).mono ?_
    rintro e w' ⟨r', b, rfl, ha, hm, hk⟩
    rw [addr_is ha, ← hr]
    exact ⟨rfl, ⟨L, S, up b X, by omega, by omega, by cases b <;> simp [up] <;> omega, hm⟩, hk⟩
  rw [← hr]
  unfold MemV at HA ⊢
  clear h hr
  obtain ⟨r1, r2⟩ := r
  simp only at HZ HA ⊢
  by_cases h0 : r2 = 0
  · subst h0
    go_enter Tryz.func19, Tryz.ntmps19
    go_wp2_with fail
    refine HA.out.mono ?_
    rintro e w1 ⟨rfl, HM1, HK1⟩
    have HX1 : Hid (BoxF w1 w.heap.size 0 0) := (BoxF.new w 0 0).keeps HK1.out (by omega)
    obtain ⟨x0, x1, f0, f1⟩ := HX1.out.cells
    clear HA
    go_wp2_with fail
    obtain ⟨d0, d1, _⟩ := (HX1.out.set 0 0).cells
    refine bodyPost_ret (v := .tuple #[.int .u64 (r1 : Int), .agg #[.int .i64 0, .int .u64 0]]) (by simp [results, Tryz.results19, go_sem, d0, d1]) rfl ?_
    have hk2 := Keeps.two w1 w.heap.size (.int .i64 0) (.int .u64 0)
    have hk1 : Keeps (fun j => j = m) w w1 := (Keeps.alloc (S := fun j => j = m) w _).trans HK1.out (fun _ _ e => e)
    exact ⟨rfl, HM1.out.keeps hk2 (fun j hj e => by have := HX.out.mine_lt hj; omega), hk1.trans hk2 (fun i hi e => absurd e (by omega))⟩
  · have h1 := HZ.out h0
    subst h1
    have HW : Hid (whyAt r2 v = v) := if_neg h0
    have h0e : (r2 == 0) = false := by simpa using h0
    go_enter Tryz.func19, Tryz.ntmps19
    go_wp2_with fail
    refine HA.out.mono ?_
    rintro e w1 ⟨rfl, HM1, HK1⟩
    have HX1 : Hid (BoxF w1 w.heap.size 0 0) := (BoxF.new w 0 0).keeps HK1.out (by omega)
    obtain ⟨x0, x1, f0, f1⟩ := HX1.out.cells
    clear HA
    go_wp2_with fail
    obtain ⟨d0, d1, _⟩ := (HX1.out.set r2 v).cells
    refine bodyPost_ret (v := .tuple #[.int .u64 0, .agg #[.int .i64 r2, .int .u64 (v : Int)]]) (by simp [results, Tryz.results19, go_sem, d0, d1]) rfl ?_
    have hk2 := Keeps.two w1 w.heap.size (.int .i64 r2) (.int .u64 (v : Int))
    have hk1 : Keeps (fun j => j = m) w w1 := (Keeps.alloc (S := fun j => j = m) w _).trans HK1.out (fun _ _ e => e)
    exact ⟨by rw [HW.out]; rfl, HM1.out.keeps hk2 (fun j hj e => by have := HX.out.mine_lt hj; omega), hk1.trans hk2 (fun i hi e => absurd e (by omega))⟩
end Go.Proofs.YtlplbbnicfeoaaaGreat
/- Pages in a machine's memory: what a walk reads there. Own work. -/
namespace Go.Proofs.YtlplbbnicfeoaaaGreat
open Go.RowKit Go.Maps Go.Proofs.YtlplbbnicfeoaaaGreat.Sp Wk
set_option linter.unusedVariables false
/-- the memory, where the first k entries are laid down -/
def entM (base : Nat) (f : Nat → Nat) (k : Nat) : Nat → Nat := fun p => if base ≤ p ∧ p < base + 8 * k then (Pl.le 8 (f ((p - base) / 8))).getD ((p - base) % 8) 0 else 0
theorem entM_zero (base : Nat) (f : Nat → Nat) : entM base f 0 = fun _ => 0 := by
  funext p
  unfold entM
  rw [if_neg (by omega)]
theorem le_zero : ∀ (k i : Nat), (Pl.le k 0).getD i 0 = 0
  | 0, _ => rfl
  | k + 1, 0 => rfl
  | k + 1, i + 1 => by
    show ((0 % 256 :: Pl.le k (0 / 256)).getD (i + 1) 0) = 0
    rw [List.getD_cons_succ]
    exact le_zero k i
theorem entM_skip {base k : Nat} {f : Nat → Nat} (h : f k = 0) : entM base f (k + 1) = entM base f k := by
  funext p
  unfold entM
  by_cases h1 : base ≤ p ∧ p < base + 8 * k
  · rw [if_pos h1, if_pos (by omega)]
  · rw [if_neg h1]
    by_cases h2 : base ≤ p ∧ p < base + 8 * (k + 1)
    · rw [if_pos h2, show (p - base) / 8 = k by omega, h, le_zero]
    · rw [if_neg h2]
theorem entM_put (base k : Nat) (f : Nat → Nat) : putAt (entM base f k) (base + 8 * k) ((Pl.le 8 (f k)).take 8) = entM base f (k + 1) := by
  rw [List.take_of_length_le (by rw [Pl.le_length]; exact Nat.le_refl _)]
  funext p
  unfold putAt
  rw [Pl.le_length]
  by_cases h1 : base + 8 * k ≤ p ∧ p < base + 8 * k + 8
  · rw [if_pos h1]
    unfold entM
    rw [if_pos (by omega), show (p - base) / 8 = k by omega, show (p - base) % 8 = p - (base + 8 * k) by omega]
  · rw [if_neg h1]
    unfold entM
    by_cases h2 : base ≤ p ∧ p < base + 8 * k
    · rw [if_pos h2, if_pos (by omega)]
    · rw [if_neg h2, if_neg (by omega)]
theorem entM_bytes {base k n : Nat} {f : Nat → Nat} (hk : k < n) : bytesAt (entM base f n) (base + 8 * k) 8 = Pl.le 8 (f k) := by
  refine (bytesAt_ext (Pl.le_length _ _) fun i hi => ?_).symm
  unfold entM
  rw [if_pos (by omega), show (base + 8 * k + i - base) / 8 = k by omega, show (base + 8 * k + i - base) % 8 = i by omega, List.getD_eq_getElem?_getD]
  rw [List.getElem?_eq_getElem (by rw [Pl.le_length]; exact hi)]
  rfl
/-- the one range of the machine -/
def rs1 (base n : Nat) : List Sp := [((base : Int), ((n * 4096 : Nat) : Int))]
theorem rs1_on {base n : Nat} {p : Int} (h1 : (base : Int) ≤ p) (h2 : p < ((base + n * 4096 : Nat) : Int)) : On (rs1 base n ++ []) p := ⟨_, List.mem_append_left _ (List.mem_singleton.2 rfl), h1, by show p < (base : Int) + ((n * 4096 : Nat) : Int); omega⟩
theorem look_ent {base n k : Nat} {f : Nat → Nat} (l : Int) (hk : k < n * 512) (hf : f k < 18446744073709551616) : lookF (rs1 base n ++ []) (entM base f (n * 512)) (base + 8 * k) l = entB (f k) l := by
  unfold lookF
  rw [if_pos (fun i hi => rs1_on (by omega) (by omega))]
  have e : rdTo (entM base f (n * 512)) (base + 8 * k) 8 8 = Pl.le 8 (f k) ++ [] := by
    unfold rdTo
    rw [entM_bytes hk]
    rfl
  rw [e, Pl.num_le 8 _ _ (by have : (256 : Nat) ^ 8 = 18446744073709551616 := by decide
                             omega)]
theorem pgs_0 : 4096 * pgs 0 = 1073741824 := by decide
theorem pgs_1 : 4096 * pgs 1 = 2097152 := by decide
theorem pgs_2 : 4096 * pgs 2 = 4096 := by decide
theorem leaf_none {xs : List L6} {base n a : Nat} (hy : whyF xs base = 0) (hn : tabsF 1 0 0 xs = n) (ha : a < 549755813888) (hno : ∀ x ∈ xs, ¬ HasA x a) : leafF (rs1 base n ++ []) (entM base (bldM xs base) (n * 512)) a 3 0 base = (no, 41) := by
  obtain ⟨hr, _, hn4, hb4, hbl⟩ := why_zero hy
  have hnx := bld_nx base hr
  have hn1 := tabs_pos hr
  rw [hn] at hnx hn4 hbl hn1
  have hc := (kn_full base hr).2
  obtain ⟨s, hs⟩ : ∃ s, s = buildU base bst0 (units xs) := ⟨_, rfl⟩
  have hM : bldM xs base = s.M := by rw [hs]; rfl
  have h := full_no hs hr ha hno
  rw [hM]
  rw [← hs] at hnx hc
  obtain ⟨q0, hq0⟩ : ∃ q, a / 1073741824 = q := ⟨_, rfl⟩
  obtain ⟨q1, hq1⟩ : ∃ q, a / 2097152 = q := ⟨_, rfl⟩
  obtain ⟨q2, hq2⟩ : ∃ q, a / 4096 = q := ⟨_, rfl⟩
  have l0 : q0 < 512 := by omega
  rw [hq0, hq1, hq2] at h
  have z0 : (0 : Nat) < 18446744073709551616 := by omega
  have e41 : ∀ l : Int, l = 0 ∨ l = 1 ∨ l = 2 → entB 0 l = (no, 41) := ent_none
  rw [leafF, pgs_0, hq0, Nat.mod_eq_of_lt l0]
  rcases h with ⟨hA, h0⟩ | ⟨hA, h0, h⟩
  · rw [look_ent ((0 : Nat) : Int) (by omega) (by rw [h0]; exact z0), h0, e41 ((0 : Nat) : Int) (.inl rfl)]
    rw [if_pos (.inl (by decide))]
  · have ht := hc.t1_lt hA
    obtain ⟨t1, ht1⟩ : ∃ t, T1 s.A s.B q0 = t := ⟨_, rfl⟩
    rw [ht1] at h0 h ht
    rw [look_ent ((0 : Nat) : Int) (by omega) (by rw [h0]; omega), h0, ent_tab (l := ((0 : Nat) : Int)) (by omega) (by omega) (.inl rfl)]
    rw [if_neg (by simp)]
    rw [leafF, pgs_1, hq1, show base + t1 * 4096 + 8 * (q1 % 512) = base + 8 * (t1 * 512 + q1 % 512) by omega]
    rcases h with ⟨hB, h1⟩ | ⟨hB, h1, h2⟩
    · rw [look_ent _ (by omega) (by rw [h1]; exact z0), h1, e41 ((0 + 1 : Nat) : Int) (.inr (.inl rfl))]
      rw [if_pos (.inl (by decide))]
    · have ht' := hc.t2_lt hB
      obtain ⟨t2, ht2⟩ : ∃ t, T2 s.A s.B q1 = t := ⟨_, rfl⟩
      rw [ht2] at h1 h2 ht'
      rw [look_ent _ (by omega) (by rw [h1]; omega), h1, ent_tab (l := ((0 + 1 : Nat) : Int)) (by omega) (by omega) (.inr rfl)]
      rw [if_neg (by simp)]
      rw [leafF, pgs_2, hq2, show base + t2 * 4096 + 8 * (q2 % 512) = base + 8 * (t2 * 512 + q2 % 512) by omega]
      rw [look_ent _ (by omega) (by rw [h2]; exact z0), h2, e41 ((0 + 1 + 1 : Nat) : Int) (.inr (.inr rfl))]
      rw [if_pos (.inl (by decide))]
theorem leaf_some {xs : List L6} {base n a : Nat} (hy : whyF xs base = 0) (hn : tabsF 1 0 0 xs = n) {x : L6} (hx : x ∈ xs) (hh : HasA x a) : a < 549755813888 ∧ leafF (rs1 base n ++ []) (entM base (bldM xs base) (n * 512)) a 3 0 base = ((x.p + (a - x.v) - a % unitF x, false, x.big, x.wr, x.ex), 0) ∧ a % unitF x ≤ x.p + (a - x.v) ∧ x.p + (a - x.v) < 4294967296 := by
  obtain ⟨hr, _, hn4, hb4, hbl⟩ := why_zero hy
  have hnx := bld_nx base hr
  have hn1 := tabs_pos hr
  rw [hn] at hnx hn4 hbl hn1
  have hc := (kn_full base hr).2
  have hxa := refuF_all hr x hx
  obtain ⟨z1, z2, z3, z4, z5, z6⟩ := aloneF_zero hxa
  have ha : a < 549755813888 := by have := hh.2; omega
  refine ⟨ha, ?_⟩
  obtain ⟨i, hi, h1, h2⟩ := (row_unit hxa).1 hh
  obtain ⟨s, hs⟩ : ∃ s, s = buildU base bst0 (units xs) := ⟨_, rfl⟩
  have hM : bldM xs base = s.M := by rw [hs]; rfl
  obtain ⟨hA, h0, hbig, hsml⟩ := full_yes hs hr hx hi h1 h2 ha
  rw [hM]
  rw [← hs] at hnx hc
  have h1' : x.v + i * unitF x ≤ a := h1
  have h2' : a < x.v + i * unitF x + unitF x := h2
  have hval : (unitAt x i).val = x.p + i * unitF x + (1 + nbit x.wr 2 + nbit x.ex 4 + nbit x.big 8) := rfl
  obtain ⟨hmul, _⟩ := cntU_mul hxa
  have hle : (i + 1) * unitF x ≤ cntU x * unitF x := Nat.mul_le_mul_right _ hi
  rw [hmul, Nat.add_mul, Nat.one_mul] at hle
  have hvm : (x.v + i * unitF x) % unitF x = 0 := by rw [Nat.add_mul_mod_self_right]; exact z2
  have hpm : (x.p + i * unitF x) % unitF x = 0 := by rw [Nat.add_mul_mod_self_right]; exact z3
  obtain ⟨iu, hiu⟩ : ∃ iu, i * unitF x = iu := ⟨_, rfl⟩
  rw [hiu] at h1' h2' hval hle hvm hpm
  have hmod : a % unitF x = a - (x.v + iu) := by
    have e : a = x.v + iu + (a - (x.v + iu)) := by omega
    have hlt : a - (x.v + iu) < unitF x := by omega
    rw [e, Nat.add_mod, hvm, Nat.zero_add, Nat.mod_mod, Nat.mod_eq_of_lt (by omega)]
    omega
  have hz5 : x.p + x.n.toNat * 4096 ≤ 4294967296 := z5
  have hF : x.p + (a - x.v) - a % unitF x = x.p + iu := by rw [hmod]; omega
  have hrest : a % unitF x ≤ x.p + (a - x.v) ∧ x.p + (a - x.v) < 4294967296 := by
    refine ⟨by rw [hmod]; omega, ?_⟩
    have := hh.2
    have := hh.1
    omega
  refine ⟨?_, hrest⟩
  rw [hF]
  have hpl : x.p + iu < 4294967296 := by
    rcases unitF_cases x with ⟨_, e⟩ | ⟨_, e⟩ <;> rw [e] at hle <;> omega
  clear hF hrest hmod
  obtain ⟨q0, hq0⟩ : ∃ q, a / 1073741824 = q := ⟨_, rfl⟩
  obtain ⟨q1, hq1⟩ : ∃ q, a / 2097152 = q := ⟨_, rfl⟩
  obtain ⟨q2, hq2⟩ : ∃ q, a / 4096 = q := ⟨_, rfl⟩
  have l0 : q0 < 512 := by omega
  rw [hq0] at hA h0
  rw [hq0, hq1] at hbig
  rw [hq0, hq1, hq2] at hsml
  rw [leafF, pgs_0, hq0, Nat.mod_eq_of_lt l0]
  have ht := hc.t1_lt hA
  obtain ⟨t1, ht1⟩ : ∃ t, T1 s.A s.B q0 = t := ⟨_, rfl⟩
  rw [ht1] at h0 hbig hsml ht
  rw [look_ent ((0 : Nat) : Int) (by omega) (by rw [h0]; omega), h0, ent_tab (l := ((0 : Nat) : Int)) (by omega) (by omega) (.inl rfl)]
  rw [if_neg (by simp)]
  rw [leafF, pgs_1, hq1, show base + t1 * 4096 + 8 * (q1 % 512) = base + 8 * (t1 * 512 + q1 % 512) by omega]
  have hfl := fl_lt x.big x.wr x.ex
  rcases unitF_cases x with ⟨hb, hu⟩ | ⟨hb, hu⟩
  · obtain ⟨hB, h3⟩ := hbig hb
    rw [hval, hb] at h3
    rw [hb] at hfl
    rw [hu] at hpm
    rw [look_ent _ (by omega) (by rw [h3]; omega), h3, hb]
    have e := ent_big hpm hpl x.wr x.ex
    rw [show (((0 + 1 : Nat) : Int)) = 1 from rfl, e]
    rw [if_pos (.inr rfl)]
  · obtain ⟨hB, h3, h4⟩ := hsml hb
    have ht' := hc.t2_lt hB
    obtain ⟨t2, ht2⟩ : ∃ t, T2 s.A s.B q1 = t := ⟨_, rfl⟩
    rw [ht2] at h3 h4 ht'
    rw [look_ent _ (by omega) (by rw [h3]; omega), h3, ent_tab (l := ((0 + 1 : Nat) : Int)) (by omega) (by omega) (.inr rfl)]
    rw [if_neg (by simp)]
    rw [leafF, pgs_2, hq2, show base + t2 * 4096 + 8 * (q2 % 512) = base + 8 * (t2 * 512 + q2 % 512) by omega]
    rw [hval, hb] at h4
    rw [hb] at hfl
    rw [hu] at hpm
    rw [look_ent _ (by omega) (by rw [h4]; omega), h4, hb]
    have e := ent_page hpm hpl x.wr x.ex
    rw [show (((0 + 1 + 1 : Nat) : Int)) = 2 from rfl, e]
    rw [if_pos (.inr rfl)]
/-- what walk answers of an address -/
def sayN (x : L6) (a : Nat) (acc : Int) : Nat × Int := if acc = 2 ∧ x.wr = false then (0, 43) else if acc = 3 ∧ x.ex = false then (0, 44) else (x.p + (a - x.v), 0)
theorem adr_hi {xs : List L6} {base n a : Nat} {acc : Int} (hacc : acc = 1 ∨ acc = 2 ∨ acc = 3) (M : Nat → Nat) (ha : 549755813888 ≤ a) : adrF (rs1 base n ++ []) M base a acc = (0, 40) := by
  unfold adrF
  rw [if_neg (by omega), if_pos ha]
theorem adr_none {xs : List L6} {base n a : Nat} {acc : Int} (hacc : acc = 1 ∨ acc = 2 ∨ acc = 3) (hy : whyF xs base = 0) (hn : tabsF 1 0 0 xs = n) (ha : a < 549755813888) (hno : ∀ x ∈ xs, ¬ HasA x a) : adrF (rs1 base n ++ []) (entM base (bldM xs base) (n * 512)) base a acc = (0, 41) := by
  unfold adrF
  rw [if_neg (by omega), if_neg (by omega), if_neg (by have := (why_zero hy).2.2.2.1; omega), leaf_none hy hn ha hno]
  unfold addrB
  rw [if_pos (by decide)]
theorem adr_some {xs : List L6} {base n a : Nat} {acc : Int} (hacc : acc = 1 ∨ acc = 2 ∨ acc = 3) (hy : whyF xs base = 0) (hn : tabsF 1 0 0 xs = n) {x : L6} (hx : x ∈ xs) (hh : HasA x a) : adrF (rs1 base n ++ []) (entM base (bldM xs base) (n * 512)) base a acc = sayN x a acc := by
  obtain ⟨ha, hl, hle, _⟩ := leaf_some hy hn hx hh
  unfold adrF
  rw [if_neg (by omega), if_neg (by omega), if_neg (by have := (why_zero hy).2.2.2.1; omega), hl]
  unfold addrB sayN
  simp only [ne_eq, not_true_eq_false, if_false]
  rcases unitF_cases x with ⟨hb, hu⟩ | ⟨hb, hu⟩
  · rw [hu] at hle ⊢
    rw [if_pos hb, Nat.sub_add_cancel hle]
  · rw [hu] at hle ⊢
    rw [if_neg (show ¬ x.big = true by rw [hb]; decide), Nat.sub_add_cancel hle]
/-- no entry is greater than a word -/
def Bnd (base K : Nat) (s : Bst) : Prop := ∀ x, s.M x ≤ base + s.nx * 4096 + K
theorem put_bnd {M : Nat → Nat} {i v x L : Nat} (h : M x ≤ L) (hv : v ≤ L) : putM M i v x ≤ L := by
  unfold putM
  split <;> assumption
theorem step_bnd {base K : Nat} {s : Bst} (h : Bnd base K s) (hK : 1 ≤ K) {u : Un} (hv : u.val ≤ K) : Bnd base K (stepU base s u) := by
  have h1 : Bnd base K (step1 base s u.v) := by
    unfold step1
    split
    · exact h
    · intro x
      have := h x
      dsimp only
      exact put_bnd (Nat.le_trans this (Nat.add_le_add_right (Nat.add_le_add_left (Nat.mul_le_mul_right _ (Nat.le_succ _)) _) _)) (Nat.add_le_add (Nat.add_le_add_left (Nat.mul_le_mul_right _ (Nat.le_succ _)) _) hK)
  have h2 : Bnd base K (downS base s u) := by
    unfold downS
    split
    · exact h1
    · unfold step2
      split
      · exact h1
      · intro x
        have := h1 x
        dsimp only
        exact put_bnd (Nat.le_trans this (Nat.add_le_add_right (Nat.add_le_add_left (Nat.mul_le_mul_right _ (Nat.le_succ _)) _) _)) (Nat.add_le_add (Nat.add_le_add_left (Nat.mul_le_mul_right _ (Nat.le_succ _)) _) hK)
  unfold stepU leafS
  split
  · intro x
    have := h2 x
    dsimp only
    exact put_bnd this (Nat.le_trans hv (Nat.le_add_left _ _))
  · intro x
    have := h2 x
    dsimp only
    exact put_bnd this (Nat.le_trans hv (Nat.le_add_left _ _))
theorem build_bnd {base K : Nat} (hK : 1 ≤ K) : ∀ {us : List Un} {s : Bst}, Bnd base K s → (∀ u ∈ us, u.val ≤ K) → Bnd base K (buildU base s us)
  | [], _, h, _ => h
  | u :: us, s, h, hu => build_bnd hK (us := us) (s := stepU base s u) (step_bnd h hK (hu u (by simp))) (fun v hv => hu v (by simp [hv]))
theorem bld_word {xs : List L6} {base : Nat} (hy : whyF xs base = 0) (k : Nat) : bldM xs base k ≤ 18446744073709551615 := by
  obtain ⟨hr, _, hn4, hb4, hbl⟩ := why_zero hy
  obtain ⟨K, hK⟩ : ∃ K : Nat, K = 4294967312 := ⟨_, rfl⟩
  have hb : Bnd base K bst0 := fun x => Nat.zero_le _
  have h := build_bnd (by omega) (us := units xs) hb (fun u hu => by
    obtain ⟨x, hx, i, hi, e⟩ := units_mem.1 hu
    have hxa := refuF_all hr x hx
    obtain ⟨z1, z2, z3, z4, z5, z6⟩ := aloneF_zero hxa
    obtain ⟨hm, _⟩ := cntU_mul hxa
    have hle : i * unitF x ≤ cntU x * unitF x := Nat.mul_le_mul_right _ (by omega)
    rw [hm] at hle
    have hfl := fl_lt x.big x.wr x.ex
    rw [e]
    have hz5 : x.p + x.n.toNat * 4096 ≤ 4294967296 := z5
    have hval : (unitAt x i).val = x.p + i * unitF x + (1 + nbit x.wr 2 + nbit x.ex 4 + nbit x.big 8) := rfl
    omega) k
  have hnx := bld_nx base hr
  rw [hnx] at h
  have h' : bldM xs base k ≤ base + tabsF 1 0 0 xs * 4096 + K := h
  omega
end Go.Proofs.YtlplbbnicfeoaaaGreat
