/- Where an address leads, as a function; Translate over a machine. Own work. -/
import Derived.Test.YtehedllcdpjebaaWkAddr
import Derived.Test.YtehedllcdpjebaaBAcc
import Derived.Lib.Hide
namespace Go.Proofs.Ytehedllcdpjebaa
open Go.RowKit Go.Maps Go.Proofs.Ytehedllcdpjebaa.Sp Wk
open Classical in
noncomputable def lookF (rs : List Sp) (M : Nat → Nat) (a : Nat) (l : Int) : Ent × Int := if ∀ i : Nat, i < 8 → On rs ((a : Int) + i) then entB (Pl.num 8 (rdTo M a 8 8)) l else (no, 42)
theorem look_is {rs : List Sp} {M : Nat → Nat} {a : Nat} {l : Int} {r : Ent × Int} {b : Bool} (h : LookR rs M a l r b) : r = lookF rs M a l := by
  obtain ⟨x, ho, rfl⟩ := h
  unfold lookF
  cases b with
  | true =>
    obtain ⟨i, hi, _, _, hn, _⟩ := ho.1 rfl
    show (no, 42) = _
    rw [if_neg (fun h => hn (h i hi))]
  | false =>
    show entB _ _ = _
    rw [if_pos (ho.2 rfl).2]
noncomputable def leafF (rs : List Sp) (M : Nat → Nat) (v : Nat) : Nat → Nat → Nat → Ent × Int
  | 0, _, _ => (no, 42)
  | n + 1, l, t => if (lookF rs M (t + 8 * (v / (4096 * pgs l) % 512)) (l : Int)).2 ≠ 0 ∨ (lookF rs M (t + 8 * (v / (4096 * pgs l) % 512)) (l : Int)).1.2.1 = false then lookF rs M (t + 8 * (v / (4096 * pgs l) % 512)) (l : Int) else leafF rs M v n (l + 1) (lookF rs M (t + 8 * (v / (4096 * pgs l) % 512)) (l : Int)).1.1
theorem leaf_is {rs : List Sp} {M : Nat → Nat} {v : Nat} {r : Ent × Int} {b : Bool} : ∀ {n l t : Nat}, LeafR rs M v n l t r b → r = leafF rs M v n l t
  | 0, _, _, h => h.elim
  | n + 1, l, t, h => by
    obtain ⟨r0, b0, h0, h1⟩ := h
    have e := look_is h0
    rw [leafF, ← e]
    rcases h1 with ⟨h1, h2, _⟩ | ⟨h1, h2, h3⟩
    · rw [if_pos h1, h2]
    · rw [if_neg (by simp [h1, h2])]
      exact leaf_is h3
noncomputable def adrF (rs : List Sp) (M : Nat → Nat) (t v : Nat) (acc : Int) : Nat × Int :=
  if acc ≠ 1 ∧ acc ≠ 2 ∧ acc ≠ 3 then (0, 1) else if 549755813888 ≤ v then (0, 40) else if t % 4096 ≠ 0 then (0, 42) else addrB (leafF rs M v 3 0 t) acc v
theorem addr_is {rs : List Sp} {M : Nat → Nat} {t v : Nat} {acc : Int} {r : Nat × Int} {b : Bool} (h : AddrR rs M t v acc r b) : r = adrF rs M t v acc := by
  unfold AddrR at h
  unfold adrF
  split at h
  · rw [if_pos (by assumption)]; exact h.1
  · rename_i h1
    rw [if_neg h1]
    split at h
    · rw [if_pos (by assumption)]; exact h.1
    · rename_i h2
      rw [if_neg h2]
      split at h
      · rw [if_pos (by assumption)]; exact h.1
      · rename_i h3
        rw [if_neg h3]
        obtain ⟨e, h4, h5⟩ := h
        rw [h5, leaf_is h4]
theorem addrB_zero {e : Ent × Int} {acc : Int} {v : Nat} (h : (addrB e acc v).2 ≠ 0) : (addrB e acc v).1 = 0 := by
  unfold addrB at h ⊢
  split
  · rfl
  · split
    · rfl
    · split
      · rfl
      · rename_i h1 h2 h3
        rw [if_neg h1, if_neg h2, if_neg h3] at h
        split at h <;> exact absurd rfl h
theorem adrF_zero {rs : List Sp} {M : Nat → Nat} {t v : Nat} {acc : Int} (h : (adrF rs M t v acc).2 ≠ 0) : (adrF rs M t v acc).1 = 0 := by
  unfold adrF at h ⊢
  split
  · rfl
  · rename_i h1
    rw [if_neg h1] at h
    split
    · rfl
    · rename_i h2
      rw [if_neg h2] at h
      split
      · rfl
      · rename_i h3
        rw [if_neg h3] at h
        exact addrB_zero h
theorem lookF_frame (rs : List Sp) (M : Nat → Nat) (a : Nat) (l : Int) : (lookF rs M a l).1.1 ≤ 4294963200 := by
  unfold lookF
  by_cases h : ∀ i : Nat, i < 8 → On rs ((a : Int) + i)
  · rw [if_pos h]
    exact look_frame (rs := rs) (M := M) (a := a) (l := l) (b := false) ⟨0, ⟨fun h => (by cases h), fun _ => ⟨rfl, h⟩⟩, rfl⟩
  · rw [if_neg h]
    show (0 : Nat) ≤ _
    omega
theorem leafF_frame (rs : List Sp) (M : Nat → Nat) (v : Nat) : ∀ n l t, (leafF rs M v n l t).1.1 ≤ 4294963200
  | 0, _, _ => Nat.zero_le _
  | n + 1, l, t => by
    rw [leafF]
    split
    · exact lookF_frame _ _ _ _
    · exact leafF_frame rs M v n _ _
theorem adrF_le (rs : List Sp) (M : Nat → Nat) (t v : Nat) (acc : Int) : (adrF rs M t v acc).1 ≤ 18446744073709551615 := by
  unfold adrF
  split
  · exact Nat.zero_le _
  · split
    · exact Nat.zero_le _
    · split
      · exact Nat.zero_le _
      · have := leafF_frame rs M v 3 0 t
        unfold addrB
        split
        · exact Nat.zero_le _
        · split
          · exact Nat.zero_le _
          · split
            · exact Nat.zero_le _
            · split
              · show _ + v % 2097152 ≤ _; omega
              · show _ + v % 4096 ≤ _; omega
/-- a machine whose meter is at most n -/
def Mx (w : World) (m B : Nat) (V : Value × Value × Value) (T : Nat → Option Nat) (M : Nat → Nat) (rs ds : List Sp) (n : Nat) : Prop := ∃ L S X, L ≤ n ∧ S ≤ n ∧ X ≤ n ∧ Mac w m B V T M rs ds L S X
theorem Mx.mono {w : World} {m B : Nat} {V : Value × Value × Value} {T : Nat → Option Nat} {M : Nat → Nat} {rs ds : List Sp} {n k : Nat} (h : Mx w m B V T M rs ds n) (hk : n ≤ k) : Mx w m B V T M rs ds k := by
  obtain ⟨L, S, X, h1, h2, h3, h4⟩ := h
  exact ⟨L, S, X, by omega, by omega, by omega, h4⟩
theorem Mx.keeps {Z : Nat → Prop} {w w' : World} {m B : Nat} {V : Value × Value × Value} {T : Nat → Option Nat} {M : Nat → Nat} {rs ds : List Sp} {n : Nat} (h : Mx w m B V T M rs ds n) (hk : Keeps Z w w') (hn : ∀ j, Mine m B V T j → ¬ Z j) : Mx w' m B V T M rs ds n := by
  obtain ⟨L, S, X, h1, h2, h3, h4⟩ := h
  exact ⟨L, S, X, h1, h2, h3, h4.keeps hk hn⟩
theorem Mx.below {w w' : World} {m B : Nat} {V : Value × Value × Value} {T : Nat → Option Nat} {M : Nat → Nat} {rs ds : List Sp} {n : Nat} (h : Mx w m B V T M rs ds n) (hb : Below w.heap.size w w') : Mx w' m B V T M rs ds n :=
  h.keeps (Keeps.of_below (S := fun _ => False) hb) (fun _ _ h => h)
theorem Mx.lt {w : World} {m B : Nat} {V : Value × Value × Value} {T : Nat → Option Nat} {M : Nat → Nat} {rs ds : List Sp} {n : Nat} (h : Mx w m B V T M rs ds n) : m < w.heap.size := by
  obtain ⟨L, S, X, _, _, _, h4⟩ := h
  exact h4.lt
theorem Mx.mine_lt {w : World} {m B : Nat} {V : Value × Value × Value} {T : Nat → Option Nat} {M : Nat → Nat} {rs ds : List Sp} {n : Nat} (h : Mx w m B V T M rs ds n) {j : Nat} (hj : Mine m B V T j) : j < w.heap.size := by
  obtain ⟨L, S, X, _, _, _, h4⟩ := h
  exact h4.mine_lt hj
theorem Mac.sane {w : World} {m B : Nat} {V : Value × Value × Value} {T : Nat → Option Nat} {M : Nat → Nat} {rs ds : List Sp} {L S X : Nat} (h : Mac w m B V T M rs ds L S X) : Sane (rs ++ ds) := by
  obtain ⟨_, _, _, _, _, _, _, h6, _⟩ := h
  exact h6
theorem Mx.sane {w : World} {m B : Nat} {V : Value × Value × Value} {T : Nat → Option Nat} {M : Nat → Nat} {rs ds : List Sp} {n : Nat} (h : Mx w m B V T M rs ds n) : Sane (rs ++ ds) := by
  obtain ⟨L, S, X, _, _, _, h4⟩ := h
  exact h4.sane
/-- the Fault of an address: none, or why, at the address -/
def whyAt (why : Int) (v : Nat) : Nat := if why = 0 then 0 else v
set_option maxRecDepth 100000 in
set_option maxHeartbeats 4000000 in
theorem translate_any {w : World} {m B : Nat} {V : Value × Value × Value} {T : Nat → Option Nat} {M : Nat → Nat} {rs ds : List Sp} {n t v : Nat} {acc : Int} (h : Mx w m B V T M rs ds n) (ht : t ≤ 18446744073709551615) (hv : v ≤ 18446744073709551615) (hn : n ≤ 4611686018427387904) :
    Calls Try.prog 6 #[MemV m, .int .u64 (t : Int), .int .u64 (v : Int), .int .i64 acc] w fun e w' => e = .returned (.tuple #[.int .u64 ((adrF (rs ++ ds) M t v acc).1 : Int), FaultV (adrF (rs ++ ds) M t v acc).2 (whyAt (adrF (rs ++ ds) M t v acc).2 v : Int)]) ∧ Hid (Mx w' m B V T M rs ds (n + 1)) ∧ Hid (Keeps (fun j => j = m) w w') := by
  have HX : Hid (Mx w m B V T M rs ds n) := h
  have hml := h.lt
  obtain ⟨r, hr⟩ : ∃ r, r = adrF (rs ++ ds) M t v acc := ⟨_, rfl⟩
  have HZ : Hid (r.2 ≠ 0 → r.1 = 0) := by rw [hr]; exact adrF_zero
  have HA : Hid (Calls Try.prog 14 #[MemV m, .int .u64 (t : Int), .int .u64 (v : Int), .int .i64 acc] (w.alloc (Obj.cells #[.int .i64 0, .int .u64 0] 27)) fun e w' => e = .returned (.tuple #[.int .u64 (r.1 : Int), .int .i64 r.2]) ∧ Hid (Mx w' m B V T M rs ds (n + 1)) ∧ Hid (Keeps (fun j => j = m) (w.alloc (Obj.cells #[.int .i64 0, .int .u64 0] 27)) w')) := by
    obtain ⟨L, S, X, h1, h2, h3, h4⟩ := h
    refine (address_any (h4.below ((Below.refl _ _).alloc (Nat.le_refl _) _)) ht hv (by omega)).mono ?_
    rintro e w' ⟨r', b, rfl, ha, hm, hk⟩
    rw [addr_is ha, ← hr]
    exact ⟨rfl, ⟨L, S, up b X, by omega, by omega, by cases b <;> simp [up] <;> omega, hm⟩, hk⟩
  rw [← hr]
  unfold MemV at HA ⊢
  clear h hr
  obtain ⟨r1, r2⟩ := r
  simp only at HZ HA ⊢
  by_cases h0 : r2 = 0
  · subst h0
    go_enter Try.func6, Try.ntmps6
    go_wp2_with fail
    refine HA.out.mono ?_
    rintro e w1 ⟨rfl, HM1, HK1⟩
    have HX1 : Hid (BoxF w1 w.heap.size 0 0) := (BoxF.new w 0 0).keeps HK1.out (by omega)
    obtain ⟨x0, x1, f0, f1⟩ := HX1.out.cells
    clear HA
    go_wp2_with fail
    obtain ⟨d0, d1, _⟩ := (HX1.out.set 0 0).cells
    refine bodyPost_ret (v := .tuple #[.int .u64 (r1 : Int), .agg #[.int .i64 0, .int .u64 0]]) (by simp [results, Try.results6, go_sem, d0, d1]) rfl ?_
    have hk2 := Keeps.two w1 w.heap.size (.int .i64 0) (.int .u64 0)
    have hk1 : Keeps (fun j => j = m) w w1 := (Keeps.alloc (S := fun j => j = m) w _).trans HK1.out (fun _ _ e => e)
    exact ⟨rfl, HM1.out.keeps hk2 (fun j hj e => by have := HX.out.mine_lt hj; omega), hk1.trans hk2 (fun i hi e => absurd e (by omega))⟩
  · have h1 := HZ.out h0
    subst h1
    have HW : Hid (whyAt r2 v = v) := if_neg h0
    have h0e : (r2 == 0) = false := by simpa using h0
    go_enter Try.func6, Try.ntmps6
    go_wp2_with fail
    refine HA.out.mono ?_
    rintro e w1 ⟨rfl, HM1, HK1⟩
    have HX1 : Hid (BoxF w1 w.heap.size 0 0) := (BoxF.new w 0 0).keeps HK1.out (by omega)
    obtain ⟨x0, x1, f0, f1⟩ := HX1.out.cells
    clear HA
    go_wp2_with fail
    obtain ⟨d0, d1, _⟩ := (HX1.out.set r2 v).cells
    refine bodyPost_ret (v := .tuple #[.int .u64 0, .agg #[.int .i64 r2, .int .u64 (v : Int)]]) (by simp [results, Try.results6, go_sem, d0, d1]) rfl ?_
    have hk2 := Keeps.two w1 w.heap.size (.int .i64 r2) (.int .u64 (v : Int))
    have hk1 : Keeps (fun j => j = m) w w1 := (Keeps.alloc (S := fun j => j = m) w _).trans HK1.out (fun _ _ e => e)
    exact ⟨by rw [HW.out]; rfl, HM1.out.keeps hk2 (fun j hj e => by have := HX.out.mine_lt hj; omega), hk1.trans hk2 (fun i hi e => absurd e (by omega))⟩
end Go.Proofs.Ytehedllcdpjebaa
