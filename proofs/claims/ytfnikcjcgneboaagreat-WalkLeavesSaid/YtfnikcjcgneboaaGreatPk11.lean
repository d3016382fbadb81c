import Derived.Test.YtfnikcjcgneboaaGreatPk05
import Derived.Test.YtfnikcjcgneboaaGreatPk10
/- look: an entry of a table in a machine's memory. Own work. -/
namespace Go.Proofs.YtfnikcjcgneboaaGreat
open Go.RowKit Go.Maps Go.Proofs.YtfnikcjcgneboaaGreat.Sp Wk
theorem BoxE.keeps {Z : Nat → Prop} {w w' : World} {g : Nat} {x : Ent} (h : BoxE w g x) (hk : Keeps Z w w') (hn : ¬ Z g) : BoxE w' g x := (hk.block g h.lt hn).trans h
theorem BoxE.frozen {w : World} {g : Nat} {x : Ent} (h : BoxE w g x) (i : Nat) : w.frozen? ⟨g, i, none⟩ = false := by
  have h' : w.heap[g]? = _ := h
  simp [World.frozen?, h']
/-- an entry, written over another -/
def putE (w : World) (g : Nat) (x : Ent) : World := ((((w.setCell ⟨g, 0, none⟩ (.int .u64 (x.1 : Int))).setCell ⟨g, 1, none⟩ (.bool x.2.1)).setCell ⟨g, 2, none⟩ (.bool x.2.2.1)).setCell ⟨g, 3, none⟩ (.bool x.2.2.2.1)).setCell ⟨g, 4, none⟩ (.bool x.2.2.2.2)
theorem putE_keeps (w : World) (g : Nat) (x : Ent) : Keeps (fun j => j = g) w (putE w g x) :=
  ((((Keeps.setCell w g 0 _).trans (Keeps.setCell _ g 1 _) (fun _ _ e => e)).trans (Keeps.setCell _ g 2 _) (fun _ _ e => e)).trans (Keeps.setCell _ g 3 _) (fun _ _ e => e)).trans (Keeps.setCell _ g 4 _) (fun _ _ e => e)
theorem BoxE.put {w : World} {g : Nat} {y : Ent} (h : BoxE w g y) (x : Ent) : BoxE (putE w g x) g x := by
  have h' : w.heap[g]? = _ := h
  simp [BoxE, putE, World.setCell, Array.getElem?_modify, h']
/-- a machine as a Memory -/
def MemV (m : Nat) : Value := .iface 28 (.pointer (some ⟨m, 0, none⟩))
/-- eight bytes of a machine, or that they are not on the bus -/
def LookR (rs : List Sp) (M : Nat → Nat) (a : Nat) (l : Int) (r : Ent × Int) (b : Bool) : Prop := ∃ x, OffR rs a 8 x b ∧ r = if b then (no, 42) else entB (Pl.num 8 (rdTo M a 8 8)) l
set_option maxRecDepth 100000 in
set_option maxHeartbeats 4000000 in
theorem look_any {w : World} {m B : Nat} {V : Value × Value × Value} {T : Nat → Option Nat} {M : Nat → Nat} {rs ds : List Sp} {L S X t k : Nat} {l : Int} (h : Mac w m B V T M rs ds L S X) (ht : t + 8 * k ≤ 18446744073709551615) (hX : X ≤ 4611686018427387904) :
    Calls Tryz.prog 67 #[MemV m, .int .u64 (t : Int), .int .u64 (k : Int), .int .i64 l] w fun e w' => ∃ r b, e = .returned (.tuple #[EntV r.1, .int .i64 r.2]) ∧ LookR (rs ++ ds) M (t + 8 * k) l r b ∧ Mac w' m B V T M rs ds L S (up b X) ∧ Keeps (fun j => j = m) w w' := by
  have HM : Hid (Mac w m B V T M rs ds L S X) := h
  clear h
  have hme : ∀ (w : World) (p : Option Addr), (method 323 28 (.pointer p) "Peek").run Tryz.prog w = .ok (142, .pointer p) w := fun _ _ => by kernel_rfl
  obtain ⟨a, ha⟩ : ∃ a, a = t + 8 * k := ⟨_, rfl⟩
  have hai : (t : Int) + 8 * (k : Int) = (a : Int) := by omega
  have HPk : Hid (∀ W, Below w.heap.size w W → Calls Tryz.prog 142 #[.pointer (some ⟨m, 0, none⟩), .int .u64 (a : Int), .int .i64 8] W (PeekPost W m B V T M rs ds L S X a 8)) := fun W hW => peek_any (HM.out.below hW) (by omega) (.inr (.inr (.inr rfl))) hX
  have HEn : Hid (∀ e : Nat, e < 18446744073709551616 → ∀ W, Calls Tryz.prog 88 #[.int .u64 (e : Int), .int .i64 l] W (EntPost W (entB e l))) := fun e he W => entry_any he l W
  rw [← ha]
  clear ha
  unfold MemV
  go_enter Tryz.func67, Tryz.ntmps67
  go_wp2_with fail
  refine (HPk.out _ ((Below.refl _ _).alloc (Nat.le_refl _) _)).mono ?_
  rintro e w1 ⟨x, b, ho, rfl, hm1, hk1⟩
  have hml := HM.out.lt
  have HOff : Hid (OffR (rs ++ ds) a 8 x b) := ho
  have HX1 : Hid (BoxE w1 w.heap.size no) := (BoxE.new w no).keeps hk1 (by omega)
  have HM1 : Hid (Mac w1 m B V T M rs ds L S (up b X)) := hm1
  have HK1 : Hid (Keeps (fun j => j = m) w w1) := (Keeps.alloc (S := fun j => j = m) w _).trans hk1 (fun _ _ e => e)
  have hne : w.heap.size ≠ w1.heap.size := Nat.ne_of_lt HX1.out.lt
  have hlt1 := HX1.out.lt
  clear ho hm1 hk1 HPk
  unfold FaultV
  cases b with
  | true =>
    simp only [if_true]
    obtain ⟨W2, hW2⟩ : ∃ W2, w1.alloc (Obj.cells #[.int .i64 30, .int .u64 x] 68) = W2 := ⟨_, rfl⟩
    have HF2 : Hid (BoxF W2 w1.heap.size 30 x) := hW2 ▸ BoxF.new w1 30 x
    have HX2 : Hid (BoxE W2 w.heap.size no) := hW2 ▸ HX1.out.below ((Below.refl _ _).alloc (Nat.le_refl _) _)
    have HB2 : Hid (Below w1.heap.size w1 W2) := hW2 ▸ (Below.refl _ _).alloc (Nat.le_refl _) _
    obtain ⟨y0, y1, _, _⟩ := HF2.out.cells
    obtain ⟨x0, x1, x2, x3, x4⟩ := HX2.out.cells
    have f0 := HX2.out.frozen 0
    have f1 := HX2.out.frozen 1
    have f2 := HX2.out.frozen 2
    have f3 := HX2.out.frozen 3
    have f4 := HX2.out.frozen 4
    go_wp2_with fail
    obtain ⟨d0, d1, d2, d3, d4⟩ := (HX2.out.put no).cells
    refine (fun (h : bodyPost _ _ _ _ _ (putE W2 w.heap.size no)) => h) ?_
    refine bodyPost_ret (v := .tuple #[EntV no, .int .i64 42]) (by simp [results, Tryz.results67, go_sem, EntV, d0, d1, d2, d3, d4]) rfl ?_
    exact ⟨(no, 42), true, rfl, ⟨x, HOff.out, rfl⟩, (HM1.out.below HB2.out).keeps (putE_keeps _ _ _) (fun j hj e => by have := HM.out.mine_lt hj; omega), (HK1.out.trans (Keeps.of_below (S := fun _ => False) HB2.out) (fun _ _ h => h.elim)).trans (putE_keeps _ _ _) (fun i hi e => absurd e (by omega))⟩
  | false =>
    simp only [Bool.false_eq_true, if_false]
    obtain ⟨num, hnum⟩ : ∃ num, num = Pl.num 8 (rdTo M a 8 8) := ⟨_, rfl⟩
    rw [← hnum]
    have HNum : Hid (num = Pl.num 8 (rdTo M a 8 8)) := hnum
    have hlt : num < 18446744073709551616 := by
      rw [hnum]
      exact Pl.acc_lt (rdTo_small HM.out.held.2.2.2.2.1 _ _ _) 0 8
    clear hnum
    obtain ⟨W2, hW2⟩ : ∃ W2, w1.alloc (Obj.cells #[.int .i64 0, .int .u64 x] 68) = W2 := ⟨_, rfl⟩
    have HF2 : Hid (BoxF W2 w1.heap.size 0 x) := hW2 ▸ BoxF.new w1 0 x
    have HX2 : Hid (BoxE W2 w.heap.size no) := hW2 ▸ HX1.out.below ((Below.refl _ _).alloc (Nat.le_refl _) _)
    have HB2 : Hid (Below w1.heap.size w1 W2) := hW2 ▸ (Below.refl _ _).alloc (Nat.le_refl _) _
    obtain ⟨y0, y1, _, _⟩ := HF2.out.cells
    go_wp2_with fail
    refine (HEn.out num hlt _).mono ?_
    rintro e w2 ⟨rfl, hb2⟩
    have HX3 : Hid (BoxE w2 w.heap.size no) := HX2.out.below hb2
    have HB3 : Hid (Below W2.heap.size W2 w2) := hb2
    clear hb2
    obtain ⟨x0, x1, x2, x3, x4⟩ := HX3.out.cells
    have f0 := HX3.out.frozen 0
    have f1 := HX3.out.frozen 1
    have f2 := HX3.out.frozen 2
    have f3 := HX3.out.frozen 3
    have f4 := HX3.out.frozen 4
    obtain ⟨⟨⟨q0, q1, q2, q3, q4⟩, q5⟩, hq⟩ : ∃ q, q = entB num l := ⟨_, rfl⟩
    rw [← hq]
    unfold EntV
    go_wp2_with fail
    obtain ⟨d0, d1, d2, d3, d4⟩ := (HX3.out.put (q0, q1, q2, q3, q4)).cells
    refine (fun (h : bodyPost _ _ _ _ _ (putE w2 w.heap.size (q0, q1, q2, q3, q4))) => h) ?_
    refine bodyPost_ret (v := .tuple #[EntV (q0, q1, q2, q3, q4), .int .i64 q5]) (by simp [results, Tryz.results67, go_sem, EntV, d0, d1, d2, d3, d4]) rfl ?_
    refine ⟨((q0, q1, q2, q3, q4), q5), false, rfl, ⟨x, HOff.out, by rw [hq, HNum.out]; rfl⟩, ((HM1.out.below HB2.out).below HB3.out).keeps (putE_keeps _ _ _) (fun j hj e => by have := HM.out.mine_lt hj; omega), ((HK1.out.trans (Keeps.of_below (S := fun _ => False) HB2.out) (fun _ _ h => h.elim)).trans (Keeps.of_below (S := fun _ => False) HB3.out) (fun _ _ h => h.elim)).trans (putE_keeps _ _ _) (fun i hi e => absurd e (by omega))⟩
end Go.Proofs.YtfnikcjcgneboaaGreat
/- pages, reach and leaf: down from a root. Own work. -/
namespace Go.Proofs.YtfnikcjcgneboaaGreat
open Go.RowKit Go.Maps Go.Proofs.YtfnikcjcgneboaaGreat.Sp Wk
/-- how many pages an entry stands for -/
def pgs (l : Nat) : Nat := 512 ^ (2 - l)
set_option maxRecDepth 100000 in
theorem pages_any {l : Nat} (hl : l ≤ 2) (w : World) : Calls Tryz.prog 41 #[.int .i64 (l : Int)] w fun e w' => e = .returned (.int .i64 (pgs l : Int)) ∧ Below w.heap.size w w' := by
  rcases (show l = 0 ∨ l = 1 ∨ l = 2 by omega) with rfl | rfl | rfl
  all_goals
    go_enter Tryz.func41, Tryz.ntmps41
    go_wp2_with fail
    refine bodyPost_ret (v := .int .i64 (pgs _ : Int)) (by simp [results, Tryz.results41, go_sem, pgs]) rfl ⟨rfl, Below.refl _ _⟩
set_option maxRecDepth 100000 in
theorem reach_any {l : Nat} (hl : l ≤ 2) (w : World) : Calls Tryz.prog 68 #[.int .i64 (l : Int)] w fun e w' => e = .returned (.int .u64 (4096 * pgs l : Nat)) ∧ Below w.heap.size w w' := by
  have HP : Hid (∀ W, Calls Tryz.prog 41 #[.int .i64 (l : Int)] W fun e w' => e = .returned (.int .i64 (pgs l : Int)) ∧ Below W.heap.size W w') := fun W => pages_any hl W
  have hp : pgs l = 262144 ∨ pgs l = 512 ∨ pgs l = 1 := by
    rcases (show l = 0 ∨ l = 1 ∨ l = 2 by omega) with rfl | rfl | rfl <;> simp [pgs]
  obtain ⟨p, hpp⟩ : ∃ p, p = pgs l := ⟨_, rfl⟩
  rw [← hpp] at HP hp ⊢
  clear hpp
  go_enter Tryz.func68, Tryz.ntmps68
  go_wp2_with fail
  refine (HP.out _).mono ?_
  rintro e w1 ⟨rfl, hb1⟩
  have HB1 : Hid (Below w.heap.size w w1) := hb1
  clear hb1
  go_wp2_with fail
  refine bodyPost_ret (v := .int .u64 (4096 * (p : Int))) (by simp [results, Tryz.results68, go_sem]) rfl ⟨?_, HB1.out⟩
  rw [Int.natCast_mul]
  rfl
/-- down from a table at level l, at most n tables -/
def LeafR (rs : List Sp) (M : Nat → Nat) (v : Nat) : Nat → Nat → Nat → Ent × Int → Bool → Prop
  | 0, _, _, _, _ => False
  | n + 1, l, t, r, b => ∃ r0 b0, LookR rs M (t + 8 * (v / (4096 * pgs l) % 512)) (l : Int) r0 b0 ∧ (((r0.2 ≠ 0 ∨ r0.1.2.1 = false) ∧ r = r0 ∧ b = b0) ∨ (r0.2 = 0 ∧ r0.1.2.1 = true ∧ LeafR rs M v n (l + 1) r0.1.1 r b))
theorem look_table {rs : List Sp} {M : Nat → Nat} {a l q0 : Nat} {q2 q3 q4 : Bool} {b : Bool} (h : LookR rs M a (l : Int) ((q0, true, q2, q3, q4), 0) b) : b = false ∧ l < 2 ∧ q0 ≤ 18446744073709551615 ∧ q0 % 4096 = 0 := by
  obtain ⟨x, _, hr⟩ := h
  cases b with
  | true => simp at hr
  | false =>
    simp only [Bool.false_eq_true, if_false] at hr
    generalize Pl.num 8 (rdTo M a 8 8) = e at hr
    unfold entB at hr
    split at hr
    · cases hr
    · rename_i hl
      split at hr
      · cases hr
      · split at hr
        · simp only [says, Prod.mk.injEq] at hr
          obtain ⟨⟨h0, h1, _⟩, _⟩ := hr
          refine ⟨rfl, ?_, ?_, ?_⟩
          · have h2 : ¬ l = 2 := by
              rintro rfl
              simp at h1
            omega
          · rw [h0]; unfold fr; omega
          · rw [h0]; unfold fr; omega
        · cases hr
set_option maxRecDepth 100000 in
set_option maxHeartbeats 4000000 in
theorem leaf_any {w : World} {m B : Nat} {V : Value × Value × Value} {T : Nat → Option Nat} {M : Nat → Nat} {rs ds : List Sp} {L S X t v : Nat} (h : Mac w m B V T M rs ds L S X) (ht : t ≤ 18446744073709551615) (h4 : t % 4096 = 0) (hv : v ≤ 18446744073709551615) (hX : X ≤ 4611686018427387904) :
    Calls Tryz.prog 69 #[MemV m, .int .u64 (t : Int), .int .u64 (v : Int)] w fun e w' => ∃ r b, e = .returned (.tuple #[EntV r.1, .int .i64 r.2]) ∧ LeafR (rs ++ ds) M v 3 0 t r b ∧ Mac w' m B V T M rs ds L S (up b X) ∧ Keeps (fun j => j = m) w w' := by
  have HM : Hid (Mac w m B V T M rs ds L S X) := h
  clear h
  have HLk : Hid (∀ (W : World) (t k : Nat) (l : Int), Mac W m B V T M rs ds L S X → t + 8 * k ≤ 18446744073709551615 → Calls Tryz.prog 67 #[MemV m, .int .u64 (t : Int), .int .u64 (k : Int), .int .i64 l] W fun e w' => ∃ r b, e = .returned (.tuple #[EntV r.1, .int .i64 r.2]) ∧ LookR (rs ++ ds) M (t + 8 * k) l r b ∧ Mac w' m B V T M rs ds L S (up b X) ∧ Keeps (fun j => j = m) W w') := fun W t k l hW hk => look_any hW hk hX
  have HRe : Hid (∀ (l : Nat), l ≤ 2 → ∀ W, Calls Tryz.prog 68 #[.int .i64 (l : Int)] W fun e w' => e = .returned (.int .u64 (4096 * pgs l : Nat)) ∧ Below W.heap.size W w') := fun l hl W => reach_any hl W
  have hml := HM.out.lt
  obtain ⟨MV, hMV⟩ : ∃ MV, MV = MemV m := ⟨_, rfl⟩
  rw [← hMV] at HLk ⊢
  clear hMV
  go_enter Tryz.func69, Tryz.ntmps69
  go_wp2_with fail
  go_loopw [8, 9] (fun x y wr => ∃ (tt l : Nat), l ≤ 2 ∧ tt ≤ 18446744073709551615 ∧ tt % 4096 = 0 ∧ x = .int .u64 (tt : Int) ∧ y = .int .i64 (l : Int) ∧ Hid (Mac wr m B V T M rs ds L S X) ∧ Hid (Keeps (fun j => j = m) w wr) ∧ Hid (BoxE wr w.heap.size no) ∧ Hid (∀ r b, LeafR (rs ++ ds) M v (3 - l) l tt r b → LeafR (rs ++ ds) M v 3 0 t r b)) (fun _ y _ => match y with | .int _ l => 3 - l.toNat | _ => 0)
  case atStart => exact ⟨t, 0, by omega, ht, h4, rfl, rfl, HM.out.below ((Below.refl _ _).alloc (Nat.le_refl _) _), Keeps.alloc (S := fun j => j = m) w _, BoxE.new w no, fun _ _ h => h⟩
  case round =>
    obtain ⟨tt, l, hl, htt, htt4, rfl, rfl, HMr, HKr, HXr, HLr⟩ := hrel
    have hDp : 0 < 4096 * pgs l := by rcases (show l = 0 ∨ l = 1 ∨ l = 2 by omega) with rfl | rfl | rfl <;> simp [pgs]
    obtain ⟨D, hD⟩ : ∃ D, D = 4096 * pgs l := ⟨_, rfl⟩
    have HD : Hid (D = 4096 * pgs l) := hD
    have hReach := HRe.out l hl
    rw [← hD] at hDp hReach
    have HRe' : Hid (∀ W, Calls Tryz.prog 68 #[.int .i64 (l : Int)] W fun e w' => e = .returned (.int .u64 (D : Int)) ∧ Below W.heap.size W w') := hReach
    clear hReach hD HRe
    go_wp2_with fail
    refine (HRe'.out _).mono ?_
    rintro e w1 ⟨rfl, hb1⟩
    have HB1 : Hid (Below wr.heap.size wr w1) := hb1
    clear hb1
    have hD0 : (D : Int) ≠ 0 := by omega
    have hqv : v / D ≤ v := Nat.div_le_self _ _
    obtain ⟨q, hq⟩ : ∃ q, q = v / D := ⟨_, rfl⟩
    obtain ⟨k, hk⟩ : ∃ k, k = q % 512 := ⟨_, rfl⟩
    have HK : Hid (k = v / D % 512) := by show _ = _; rw [hk, hq]
    rw [← hq] at hqv
    have hw : IntKind.u64.wrap ((v : Int) / (D : Int)) = (q : Int) := by
      rw [← Int.natCast_ediv, ← hq]
      exact U64.wrap_in (by omega) (by omega)
    have hm : (q : Int).tmod 512 = (k : Int) := by
      rw [Int.tmod_eq_emod_of_nonneg (by omega), hk]
      omega
    have hk5 : k < 512 := by omega
    clear hk hq
    go_wp2_with fail
    clear hw hm hqv
    refine (HLk.out w1 tt k l (HMr.out.below HB1.out) (by omega)).mono ?_
    rintro e w2 ⟨⟨⟨q0, q1, q2, q3, q4⟩, q5⟩, b, rfl, hr, hm2, hk2⟩
    have HR : Hid (LookR (rs ++ ds) M (tt + 8 * k) l ((q0, q1, q2, q3, q4), q5) b) := hr
    have HM2 : Hid (Mac w2 m B V T M rs ds L S (up b X)) := hm2
    have HK2 : Hid (Keeps (fun j => j = m) w w2) := (HKr.out.trans (Keeps.of_below (S := fun _ => False) HB1.out) (fun _ _ h => h.elim)).trans hk2 (fun _ _ e => e)
    have HX2 : Hid (BoxE w2 w.heap.size no) := (HXr.out.below HB1.out).keeps hk2 (by omega)
    clear hr hm2 hk2
    obtain ⟨W3, hW3⟩ : ∃ W3, w2.alloc (Obj.cells #[.int .u64 (q0 : Int), .bool q1, .bool q2, .bool q3, .bool q4] 113) = W3 := ⟨_, rfl⟩
    have HE3 : Hid (BoxE W3 w2.heap.size (q0, q1, q2, q3, q4)) := hW3 ▸ BoxE.new w2 (q0, q1, q2, q3, q4)
    have HX3 : Hid (BoxE W3 w.heap.size no) := hW3 ▸ HX2.out.below ((Below.refl _ _).alloc (Nat.le_refl _) _)
    have HB3 : Hid (Below w2.heap.size w2 W3) := hW3 ▸ (Below.refl _ _).alloc (Nat.le_refl _) _
    have hlt := HX2.out.lt
    have hne : w.heap.size ≠ w2.heap.size := Nat.ne_of_lt hlt
    obtain ⟨y0, y1, y2, y3, y4⟩ := HE3.out.cells
    obtain ⟨x0, x1, x2, x3, x4⟩ := HX3.out.cells
    have f0 := HX3.out.frozen 0
    have f1 := HX3.out.frozen 1
    have f2 := HX3.out.frozen 2
    have f3 := HX3.out.frozen 3
    have f4 := HX3.out.frozen 4
    unfold EntV
    have HEnd : Hid (∀ r b, (r.2 ≠ 0 ∨ r.1.2.1 = false) → LookR (rs ++ ds) M (tt + 8 * k) l r b → LeafR (rs ++ ds) M v 3 0 t r b) := fun r b hc hr => HLr.out r b (by
      rw [show 3 - l = (2 - l) + 1 by omega]
      exact ⟨r, b, by rw [← HD.out, ← HK.out]; exact hr, .inl ⟨hc, rfl, rfl⟩⟩)
    by_cases hq5 : q5 = 0
    · subst hq5
      cases q1 with
      | false =>
        go_wp2_with fail
        obtain ⟨d0, d1, d2, d3, d4⟩ := (HX3.out.put (q0, false, q2, q3, q4)).cells
        refine (fun (h : bodyPost _ _ _ _ _ (putE W3 w.heap.size (q0, false, q2, q3, q4))) => h) ?_
        refine bodyPost_ret (v := .tuple #[EntV (q0, false, q2, q3, q4), .int .i64 0]) (by simp [results, Tryz.results69, go_sem, EntV, d0, d1, d2, d3, d4]) rfl ?_
        exact ⟨((q0, false, q2, q3, q4), 0), b, rfl, HEnd.out _ _ (.inr rfl) HR.out, (HM2.out.below HB3.out).keeps (putE_keeps _ _ _) (fun j hj e => by have := HM.out.mine_lt hj; omega), (HK2.out.trans (Keeps.of_below (S := fun _ => False) HB3.out) (fun _ _ h => h.elim)).trans (putE_keeps _ _ _) (fun i hi e => absurd e (by omega))⟩
      | true =>
        obtain ⟨rfl, hl2, hq0, hq4⟩ := look_table HR.out
        go_wp2_with fail
        refine ⟨⟨q0, l + 1, by omega, hq0, hq4, rfl, rfl, HM2.out.below HB3.out, HK2.out.trans (Keeps.of_below (S := fun _ => False) HB3.out) (fun _ _ h => h.elim), HX3.out, fun r b hr => HLr.out r b ?_⟩, by show _ < _; simp; omega⟩
        rw [show 3 - l = (3 - (l + 1)) + 1 by omega]
        exact ⟨_, _, by rw [← HD.out, ← HK.out]; exact HR.out, .inr ⟨rfl, rfl, hr⟩⟩
    · go_wp2_with fail
      obtain ⟨d0, d1, d2, d3, d4⟩ := (HX3.out.put (q0, q1, q2, q3, q4)).cells
      refine (fun (h : bodyPost _ _ _ _ _ (putE W3 w.heap.size (q0, q1, q2, q3, q4))) => h) ?_
      refine bodyPost_ret (v := .tuple #[EntV (q0, q1, q2, q3, q4), .int .i64 q5]) (by simp [results, Tryz.results69, go_sem, EntV, d0, d1, d2, d3, d4]) rfl ?_
      exact ⟨((q0, q1, q2, q3, q4), q5), b, rfl, HEnd.out _ _ (.inl hq5) HR.out, (HM2.out.below HB3.out).keeps (putE_keeps _ _ _) (fun j hj e => by have := HM.out.mine_lt hj; omega), (HK2.out.trans (Keeps.of_below (S := fun _ => False) HB3.out) (fun _ _ h => h.elim)).trans (putE_keeps _ _ _) (fun i hi e => absurd e (by omega))⟩
end Go.Proofs.YtfnikcjcgneboaaGreat
/- address and Translate over a machine. Own work. -/
namespace Go.Proofs.YtfnikcjcgneboaaGreat
open Go.RowKit Go.Maps Go.Proofs.YtfnikcjcgneboaaGreat.Sp Wk
theorem look_frame {rs : List Sp} {M : Nat → Nat} {a : Nat} {l : Int} {r : Ent × Int} {b : Bool} (h : LookR rs M a l r b) : r.1.1 ≤ 4294963200 := by
  obtain ⟨x, _, rfl⟩ := h
  cases b with
  | true => simp [no]
  | false =>
    simp only [Bool.false_eq_true, if_false]
    unfold entB
    split
    · simp [no]
    · split
      · simp [no]
      · split
        · show fr _ ≤ _
          unfold fr
          omega
        · simp [no]
theorem leaf_frame {rs : List Sp} {M : Nat → Nat} {v : Nat} {r : Ent × Int} {b : Bool} : ∀ {n l t : Nat}, LeafR rs M v n l t r b → r.1.1 ≤ 4294963200
  | 0, _, _, h => h.elim
  | n + 1, l, t, h => by
    obtain ⟨r0, b0, h0, h1 | h1⟩ := h
    · rw [h1.2.1]
      exact look_frame h0
    · exact leaf_frame h1.2.2
/-- where the leaf leads, or why not -/
def addrB (e : Ent × Int) (acc : Int) (v : Nat) : Nat × Int :=
  if e.2 ≠ 0 then (0, e.2) else if acc = 2 ∧ e.1.2.2.2.1 = false then (0, 43) else if acc = 3 ∧ e.1.2.2.2.2 = false then (0, 44) else if e.1.2.2.1 = true then (e.1.1 + v % 2097152, 0) else (e.1.1 + v % 4096, 0)
def AddrR (rs : List Sp) (M : Nat → Nat) (t v : Nat) (acc : Int) (r : Nat × Int) (b : Bool) : Prop :=
  if acc ≠ 1 ∧ acc ≠ 2 ∧ acc ≠ 3 then r = (0, 1) ∧ b = false
  else if 549755813888 ≤ v then r = (0, 40) ∧ b = false
  else if t % 4096 ≠ 0 then r = (0, 42) ∧ b = false
  else ∃ e, LeafR rs M v 3 0 t e b ∧ r = addrB e acc v
def AddrPost (w : World) (m B : Nat) (V : Value × Value × Value) (T : Nat → Option Nat) (M : Nat → Nat) (rs ds : List Sp) (L S X t v : Nat) (acc : Int) (e : Ending) (w' : World) : Prop :=
  ∃ (r : Nat × Int) (b : Bool), e = .returned (.tuple #[.int .u64 (r.1 : Int), .int .i64 r.2]) ∧ AddrR (rs ++ ds) M t v acc r b ∧ Mac w' m B V T M rs ds L S (up b X) ∧ Keeps (fun j => j = m) w w'
set_option maxRecDepth 100000 in
set_option maxHeartbeats 8000000 in
theorem address_any {w : World} {m B : Nat} {V : Value × Value × Value} {T : Nat → Option Nat} {M : Nat → Nat} {rs ds : List Sp} {L S X t v : Nat} {acc : Int} (h : Mac w m B V T M rs ds L S X) (ht : t ≤ 18446744073709551615) (hv : v ≤ 18446744073709551615) (hX : X ≤ 4611686018427387904) :
    Calls Tryz.prog 45 #[MemV m, .int .u64 (t : Int), .int .u64 (v : Int), .int .i64 acc] w (AddrPost w m B V T M rs ds L S X t v acc) := by
  have HM : Hid (Mac w m B V T M rs ds L S X) := h
  clear h
  have HLf : Hid (t % 4096 = 0 → Calls Tryz.prog 69 #[MemV m, .int .u64 (t : Int), .int .u64 (v : Int)] w fun e w' => ∃ r b, e = .returned (.tuple #[EntV r.1, .int .i64 r.2]) ∧ LeafR (rs ++ ds) M v 3 0 t r b ∧ Mac w' m B V T M rs ds L S (up b X) ∧ Keeps (fun j => j = m) w w') := fun h4 => leaf_any HM.out ht h4 hv hX
  have hml := HM.out.lt
  have HS : Hid (∀ r, AddrR (rs ++ ds) M t v acc r false → ∃ (r' : Nat × Int) (b : Bool), (Ending.returned (.tuple #[.int .u64 (r.1 : Int), .int .i64 r.2])) = .returned (.tuple #[.int .u64 (r'.1 : Int), .int .i64 r'.2]) ∧ AddrR (rs ++ ds) M t v acc r' b ∧ Mac w m B V T M rs ds L S (up b X) ∧ Keeps (fun j => j = m) w w) := fun r hr => ⟨r, false, rfl, hr, HM.out, Keeps.refl _ _⟩
  obtain ⟨t4, ht4⟩ : ∃ t4, t4 = t % 4096 := ⟨_, rfl⟩
  obtain ⟨vb, hvb⟩ : ∃ vb, vb = v % 2097152 := ⟨_, rfl⟩
  obtain ⟨vp, hvp⟩ : ∃ vp, vp = v % 4096 := ⟨_, rfl⟩
  have HT4 : Hid (t4 = t % 4096) := ht4
  have HVb : Hid (vb = v % 2097152) := hvb
  have HVp : Hid (vp = v % 4096) := hvp
  have e4 : (t : Int).tmod 4096 = (t4 : Int) := by rw [Int.tmod_eq_emod_of_nonneg (by omega), ht4]; omega
  have eb : (v : Int).tmod 2097152 = (vb : Int) := by rw [Int.tmod_eq_emod_of_nonneg (by omega), hvb]; omega
  have ep : (v : Int).tmod 4096 = (vp : Int) := by rw [Int.tmod_eq_emod_of_nonneg (by omega), hvp]; omega
  have lb : vb < 2097152 := by omega
  have lp : vp < 4096 := by omega
  clear ht4 hvb hvp
  unfold MemV at HLf ⊢
  obtain ⟨vi, hvi⟩ : ∃ vi : Int, vi = (v : Int) := ⟨_, rfl⟩
  rw [← hvi] at HLf eb ep ⊢
  have HVi : Hid (vi = (v : Int)) := hvi
  have hvi0 : 0 ≤ vi := by omega
  have hvi1 : vi ≤ 18446744073709551615 := by omega
  clear hvi hv
  go_enter Tryz.func45, Tryz.ntmps45
  by_cases hacc : acc ≠ 1 ∧ acc ≠ 2 ∧ acc ≠ 3
  · obtain ⟨h1, h2, h3⟩ := hacc
    have b1 : (acc != 1) = true := by simpa using h1
    have b2 : (acc != 2) = true := by simpa using h2
    have b3 : (acc != 3) = true := by simpa using h3
    go_wp2_with fail
    refine bodyPost_ret (v := .tuple #[.int .u64 ((0 : Nat) : Int), .int .i64 1]) (by simp [results, Tryz.results45, go_sem]) rfl ?_
    exact HS.out (0, 1) (by unfold AddrR; rw [if_pos ⟨h1, h2, h3⟩]; exact ⟨rfl, rfl⟩)
  · have hac : acc = 1 ∨ acc = 2 ∨ acc = 3 := by omega
    by_cases hvm : 549755813888 ≤ v
    · have HAll : Hid (AddrR (rs ++ ds) M t v acc (0, 40) false) := by show AddrR _ _ _ _ _ _ _; unfold AddrR; rw [if_neg hacc, if_pos hvm]; exact ⟨rfl, rfl⟩
      have hvm' : 549755813888 ≤ vi := by have := HVi.out; omega
      clear hacc hvm
      rcases hac with rfl | rfl | rfl
      all_goals
        go_wp2_with fail
        refine bodyPost_ret (v := .tuple #[.int .u64 ((0 : Nat) : Int), .int .i64 40]) (by simp [results, Tryz.results45, go_sem]) rfl ?_
        exact HS.out (0, 40) HAll.out
    · by_cases h4 : t4 = 0
      · have HAll : Hid (∀ e r b, LeafR (rs ++ ds) M v 3 0 t e b → r = addrB e acc v → AddrR (rs ++ ds) M t v acc r b) := fun e r b he hr => by
          unfold AddrR
          rw [if_neg hacc, if_neg hvm, if_neg (by rw [← HT4.out]; omega)]
          exact ⟨e, he, hr⟩
        have hvm' : vi < 549755813888 := by have := HVi.out; omega
        clear hacc HS hvm
        subst h4
        rcases hac with rfl | rfl | rfl
        · go_wp2_with fail
          refine (HLf.out HT4.out.symm).mono ?_
          rintro e w1 ⟨⟨⟨q0, q1, q2, q3, q4⟩, q5⟩, b, rfl, hr, hm1, hk1⟩
          have HR : Hid (LeafR (rs ++ ds) M v 3 0 t ((q0, q1, q2, q3, q4), q5) b) := hr
          have hq0 : q0 ≤ 4294963200 := leaf_frame hr
          have HM1 : Hid (Mac w1 m B V T M rs ds L S (up b X)) := hm1
          have HK1 : Hid (Keeps (fun j => j = m) w w1) := hk1
          clear hr hm1 hk1 HLf
          obtain ⟨W2, hW2⟩ : ∃ W2, w1.alloc (Obj.cells #[.int .u64 (q0 : Int), .bool q1, .bool q2, .bool q3, .bool q4] 113) = W2 := ⟨_, rfl⟩
          have HE2 : Hid (BoxE W2 w1.heap.size (q0, q1, q2, q3, q4)) := hW2 ▸ BoxE.new w1 (q0, q1, q2, q3, q4)
          have HB2 : Hid (Below w1.heap.size w1 W2) := hW2 ▸ (Below.refl _ _).alloc (Nat.le_refl _) _
          have HZ : Hid (∀ r : Nat × Int, r = addrB ((q0, q1, q2, q3, q4), q5) 1 v → AddrPost w m B V T M rs ds L S X t v 1 (.returned (.tuple #[.int .u64 (r.1 : Int), .int .i64 r.2])) W2) := fun r hr => ⟨r, b, rfl, HAll.out _ _ _ HR.out hr, HM1.out.below HB2.out, HK1.out.trans (Keeps.of_below (S := fun _ => False) HB2.out) (fun _ _ h => h.elim)⟩
          obtain ⟨y0, y1, y2, y3, y4⟩ := HE2.out.cells
          have z4 := HE2.out.frozen 4
          unfold EntV
          by_cases hq5 : q5 = 0
          · subst hq5
            cases q2 with
            | true =>
              go_wp2_with fail
              refine bodyPost_ret (v := .tuple #[.int .u64 ((q0 : Int) + (vb : Int)), .int .i64 0]) (by simp [results, Tryz.results45, go_sem]) rfl ?_
              exact HZ.out (q0 + vb, 0) (by simp [addrB, HVb.out])
            | false =>
              go_wp2_with fail
              refine bodyPost_ret (v := .tuple #[.int .u64 ((q0 : Int) + (vp : Int)), .int .i64 0]) (by simp [results, Tryz.results45, go_sem]) rfl ?_
              exact HZ.out (q0 + vp, 0) (by simp [addrB, HVp.out])
          · go_wp2_with fail
            refine bodyPost_ret (v := .tuple #[.int .u64 ((0 : Nat) : Int), .int .i64 q5]) (by simp [results, Tryz.results45, go_sem]) rfl ?_
            exact HZ.out (0, q5) (by simp [addrB, hq5])
        · go_wp2_with fail
          refine (HLf.out HT4.out.symm).mono ?_
          rintro e w1 ⟨⟨⟨q0, q1, q2, q3, q4⟩, q5⟩, b, rfl, hr, hm1, hk1⟩
          have HR : Hid (LeafR (rs ++ ds) M v 3 0 t ((q0, q1, q2, q3, q4), q5) b) := hr
          have hq0 : q0 ≤ 4294963200 := leaf_frame hr
          have HM1 : Hid (Mac w1 m B V T M rs ds L S (up b X)) := hm1
          have HK1 : Hid (Keeps (fun j => j = m) w w1) := hk1
          clear hr hm1 hk1 HLf
          obtain ⟨W2, hW2⟩ : ∃ W2, w1.alloc (Obj.cells #[.int .u64 (q0 : Int), .bool q1, .bool q2, .bool q3, .bool q4] 113) = W2 := ⟨_, rfl⟩
          have HE2 : Hid (BoxE W2 w1.heap.size (q0, q1, q2, q3, q4)) := hW2 ▸ BoxE.new w1 (q0, q1, q2, q3, q4)
          have HB2 : Hid (Below w1.heap.size w1 W2) := hW2 ▸ (Below.refl _ _).alloc (Nat.le_refl _) _
          have HZ : Hid (∀ r : Nat × Int, r = addrB ((q0, q1, q2, q3, q4), q5) 2 v → AddrPost w m B V T M rs ds L S X t v 2 (.returned (.tuple #[.int .u64 (r.1 : Int), .int .i64 r.2])) W2) := fun r hr => ⟨r, b, rfl, HAll.out _ _ _ HR.out hr, HM1.out.below HB2.out, HK1.out.trans (Keeps.of_below (S := fun _ => False) HB2.out) (fun _ _ h => h.elim)⟩
          obtain ⟨y0, y1, y2, y3, y4⟩ := HE2.out.cells
          have z4 := HE2.out.frozen 4
          unfold EntV
          by_cases hq5 : q5 = 0
          · subst hq5
            cases q3 with
            | false =>
              go_wp2_with fail
              refine bodyPost_ret (v := .tuple #[.int .u64 ((0 : Nat) : Int), .int .i64 43]) (by simp [results, Tryz.results45, go_sem]) rfl ?_
              exact HZ.out (0, 43) (by simp [addrB])
            | true =>
              cases q2 with
              | true =>
                go_wp2_with fail
                refine bodyPost_ret (v := .tuple #[.int .u64 ((q0 : Int) + (vb : Int)), .int .i64 0]) (by simp [results, Tryz.results45, go_sem]) rfl ?_
                exact HZ.out (q0 + vb, 0) (by simp [addrB, HVb.out])
              | false =>
                go_wp2_with fail
                refine bodyPost_ret (v := .tuple #[.int .u64 ((q0 : Int) + (vp : Int)), .int .i64 0]) (by simp [results, Tryz.results45, go_sem]) rfl ?_
                exact HZ.out (q0 + vp, 0) (by simp [addrB, HVp.out])
          · go_wp2_with fail
            refine bodyPost_ret (v := .tuple #[.int .u64 ((0 : Nat) : Int), .int .i64 q5]) (by simp [results, Tryz.results45, go_sem]) rfl ?_
            exact HZ.out (0, q5) (by simp [addrB, hq5])
        · go_wp2_with fail
          refine (HLf.out HT4.out.symm).mono ?_
          rintro e w1 ⟨⟨⟨q0, q1, q2, q3, q4⟩, q5⟩, b, rfl, hr, hm1, hk1⟩
          have HR : Hid (LeafR (rs ++ ds) M v 3 0 t ((q0, q1, q2, q3, q4), q5) b) := hr
          have hq0 : q0 ≤ 4294963200 := leaf_frame hr
          have HM1 : Hid (Mac w1 m B V T M rs ds L S (up b X)) := hm1
          have HK1 : Hid (Keeps (fun j => j = m) w w1) := hk1
          clear hr hm1 hk1 HLf
          obtain ⟨W2, hW2⟩ : ∃ W2, w1.alloc (Obj.cells #[.int .u64 (q0 : Int), .bool q1, .bool q2, .bool q3, .bool q4] 113) = W2 := ⟨_, rfl⟩
          have HE2 : Hid (BoxE W2 w1.heap.size (q0, q1, q2, q3, q4)) := hW2 ▸ BoxE.new w1 (q0, q1, q2, q3, q4)
          have HB2 : Hid (Below w1.heap.size w1 W2) := hW2 ▸ (Below.refl _ _).alloc (Nat.le_refl _) _
          have HZ : Hid (∀ r : Nat × Int, r = addrB ((q0, q1, q2, q3, q4), q5) 3 v → AddrPost w m B V T M rs ds L S X t v 3 (.returned (.tuple #[.int .u64 (r.1 : Int), .int .i64 r.2])) W2) := fun r hr => ⟨r, b, rfl, HAll.out _ _ _ HR.out hr, HM1.out.below HB2.out, HK1.out.trans (Keeps.of_below (S := fun _ => False) HB2.out) (fun _ _ h => h.elim)⟩
          obtain ⟨y0, y1, y2, y3, y4⟩ := HE2.out.cells
          have z4 := HE2.out.frozen 4
          unfold EntV
          by_cases hq5 : q5 = 0
          · subst hq5
            cases q4 with
            | false =>
              go_wp2_with fail
              refine bodyPost_ret (v := .tuple #[.int .u64 ((0 : Nat) : Int), .int .i64 44]) (by simp [results, Tryz.results45, go_sem]) rfl ?_
              exact ⟨(0, 44), b, rfl, HAll.out _ _ _ HR.out (by simp [addrB]), (HM1.out.below HB2.out).keeps (Keeps.setCell _ w1.heap.size _ _) (fun j hj e => by have := HM.out.mine_lt hj; have := HK1.out.size; omega), (HK1.out.trans (Keeps.of_below (S := fun _ => False) HB2.out) (fun _ _ h => h.elim)).trans (Keeps.setCell _ w1.heap.size _ _) (fun i hi e => absurd e (by have := HK1.out.size; omega))⟩
            | true =>
              cases q2 with
              | true =>
                go_wp2_with fail
                refine bodyPost_ret (v := .tuple #[.int .u64 ((q0 : Int) + (vb : Int)), .int .i64 0]) (by simp [results, Tryz.results45, go_sem]) rfl ?_
                exact HZ.out (q0 + vb, 0) (by simp [addrB, HVb.out])
              | false =>
                go_wp2_with fail
                refine bodyPost_ret (v := .tuple #[.int .u64 ((q0 : Int) + (vp : Int)), .int .i64 0]) (by simp [results, Tryz.results45, go_sem]) rfl ?_
                exact HZ.out (q0 + vp, 0) (by simp [addrB, HVp.out])
          · go_wp2_with fail
            refine bodyPost_ret (v := .tuple #[.int .u64 ((0 : Nat) : Int), .int .i64 q5]) (by simp [results, Tryz.results45, go_sem]) rfl ?_
            exact HZ.out (0, q5) (by simp [addrB, hq5])
      · have HAll : Hid (AddrR (rs ++ ds) M t v acc (0, 42) false) := by show AddrR _ _ _ _ _ _ _; unfold AddrR; rw [if_neg hacc, if_neg hvm, if_pos (by rw [← HT4.out]; exact h4)]; exact ⟨rfl, rfl⟩
        have hvm' : vi < 549755813888 := by have := HVi.out; omega
        clear hacc hvm
        rcases hac with rfl | rfl | rfl
        all_goals
          go_wp2_with fail
          refine bodyPost_ret (v := .tuple #[.int .u64 ((0 : Nat) : Int), .int .i64 42]) (by simp [results, Tryz.results45, go_sem]) rfl ?_
          exact HS.out (0, 42) HAll.out
end Go.Proofs.YtfnikcjcgneboaaGreat
