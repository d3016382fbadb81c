import Derived.Test.YtfnikcjcgneboaaGreatPk11
import Derived.Test.YtfnikcjcgneboaaGreatPk10
import Derived.Lib.Hide
import Derived.Deep.RegionHeld3
import Derived.Deep.DeepCutAuto
import Derived.Deep.CutBlock
/- Where an address leads, as a function; Translate over a machine. Own work. -/
namespace Go.Proofs.YtfnikcjcgneboaaGreat
open Go.RowKit Go.Maps Go.Proofs.YtfnikcjcgneboaaGreat.Sp Wk
open Classical in
noncomputable def lookF (rs : List Sp) (M : Nat → Nat) (a : Nat) (l : Int) : Ent × Int := if ∀ i : Nat, i < 8 → On rs ((a : Int) + i) then entB (Pl.num 8 (rdTo M a 8 8)) l else (no, 42)
theorem look_is {rs : List Sp} {M : Nat → Nat} {a : Nat} {l : Int} {r : Ent × Int} {b : Bool} (h : LookR rs M a l r b) : r = lookF rs M a l := by
  obtain ⟨x, ho, rfl⟩ := h
  unfold lookF
  cases b with
  | true =>
    obtain ⟨i, hi, _, _, hn, _⟩ := ho.1 rfl
    show (no, 42) = _
    rw [if_neg (fun h => hn (h i hi))]
  | false =>
    show entB _ _ = _
    rw [if_pos (ho.2 rfl).2]
noncomputable def leafF (rs : List Sp) (M : Nat → Nat) (v : Nat) : Nat → Nat → Nat → Ent × Int
  | 0, _, _ => (no, 42)
  | n + 1, l, t => if (lookF rs M (t + 8 * (v / (4096 * pgs l) % 512)) (l : Int)).2 ≠ 0 ∨ (lookF rs M (t + 8 * (v / (4096 * pgs l) % 512)) (l : Int)).1.2.1 = false then lookF rs M (t + 8 * (v / (4096 * pgs l) % 512)) (l : Int) else leafF rs M v n (l + 1) (lookF rs M (t + 8 * (v / (4096 * pgs l) % 512)) (l : Int)).1.1
theorem leaf_is {rs : List Sp} {M : Nat → Nat} {v : Nat} {r : Ent × Int} {b : Bool} : ∀ {n l t : Nat}, LeafR rs M v n l t r b → r = leafF rs M v n l t
  | 0, _, _, h => h.elim
  | n + 1, l, t, h => by
    obtain ⟨r0, b0, h0, h1⟩ := h
    have e := look_is h0
    rw [leafF, ← e]
    rcases h1 with ⟨h1, h2, _⟩ | ⟨h1, h2, h3⟩
    · rw [if_pos h1, h2]
    · rw [if_neg (by simp [h1, h2])]
      exact leaf_is h3
noncomputable def adrF (rs : List Sp) (M : Nat → Nat) (t v : Nat) (acc : Int) : Nat × Int :=
  if acc ≠ 1 ∧ acc ≠ 2 ∧ acc ≠ 3 then (0, 1) else if 549755813888 ≤ v then (0, 40) else if t % 4096 ≠ 0 then (0, 42) else addrB (leafF rs M v 3 0 t) acc v
theorem addr_is {rs : List Sp} {M : Nat → Nat} {t v : Nat} {acc : Int} {r : Nat × Int} {b : Bool} (h : AddrR rs M t v acc r b) : r = adrF rs M t v acc := by
  unfold AddrR at h
  unfold adrF
  split at h
  · rw [if_pos (by assumption)]; exact h.1
  · rename_i h1
    rw [if_neg h1]
    split at h
    · rw [if_pos (by assumption)]; exact h.1
    · rename_i h2
      rw [if_neg h2]
      split at h
      · rw [if_pos (by assumption)]; exact h.1
      · rename_i h3
        rw [if_neg h3]
        obtain ⟨e, h4, h5⟩ := h
        rw [h5, leaf_is h4]
theorem addrB_zero {e : Ent × Int} {acc : Int} {v : Nat} (h : (addrB e acc v).2 ≠ 0) : (addrB e acc v).1 = 0 := by
  unfold addrB at h ⊢
  split
  · rfl
  · split
    · rfl
    · split
      · rfl
      · rename_i h1 h2 h3
        rw [if_neg h1, if_neg h2, if_neg h3] at h
        split at h <;> exact absurd rfl h
theorem adrF_zero {rs : List Sp} {M : Nat → Nat} {t v : Nat} {acc : Int} (h : (adrF rs M t v acc).2 ≠ 0) : (adrF rs M t v acc).1 = 0 := by
  unfold adrF at h ⊢
  split
  · rfl
  · rename_i h1
    rw [if_neg h1] at h
    split
    · rfl
    · rename_i h2
      rw [if_neg h2] at h
      split
      · rfl
      · rename_i h3
        rw [if_neg h3] at h
        exact addrB_zero h
theorem lookF_frame (rs : List Sp) (M : Nat → Nat) (a : Nat) (l : Int) : (lookF rs M a l).1.1 ≤ 4294963200 := by
  unfold lookF
  by_cases h : ∀ i : Nat, i < 8 → On rs ((a : Int) + i)
  · rw [if_pos h]
    exact look_frame (rs := rs) (M := M) (a := a) (l := l) (b := false) ⟨0, ⟨fun h => (by cases h), fun _ => ⟨rfl, h⟩⟩, rfl⟩
  · rw [if_neg h]
    show (0 : Nat) ≤ _
    omega
theorem leafF_frame (rs : List Sp) (M : Nat → Nat) (v : Nat) : ∀ n l t, (leafF rs M v n l t).1.1 ≤ 4294963200
  | 0, _, _ => Nat.zero_le _
  | n + 1, l, t => by
    rw [leafF]
    split
    · exact lookF_frame _ _ _ _
    · exact leafF_frame rs M v n _ _
theorem adrF_le (rs : List Sp) (M : Nat → Nat) (t v : Nat) (acc : Int) : (adrF rs M t v acc).1 ≤ 18446744073709551615 := by
  unfold adrF
  split
  · exact Nat.zero_le _
  · split
    · exact Nat.zero_le _
    · split
      · exact Nat.zero_le _
      · have := leafF_frame rs M v 3 0 t
        unfold addrB
        split
        · exact Nat.zero_le _
        · split
          · exact Nat.zero_le _
          · split
            · exact Nat.zero_le _
            · split
              · show _ + v % 2097152 ≤ _; omega
              · show _ + v % 4096 ≤ _; omega
/-- a machine whose meter is at most n -/
def Mx (w : World) (m B : Nat) (V : Value × Value × Value) (T : Nat → Option Nat) (M : Nat → Nat) (rs ds : List Sp) (n : Nat) : Prop := ∃ L S X, L ≤ n ∧ S ≤ n ∧ X ≤ n ∧ Mac w m B V T M rs ds L S X
theorem Mx.mono {w : World} {m B : Nat} {V : Value × Value × Value} {T : Nat → Option Nat} {M : Nat → Nat} {rs ds : List Sp} {n k : Nat} (h : Mx w m B V T M rs ds n) (hk : n ≤ k) : Mx w m B V T M rs ds k := by
  obtain ⟨L, S, X, h1, h2, h3, h4⟩ := h
  exact ⟨L, S, X, by omega, by omega, by omega, h4⟩
theorem Mx.keeps {Z : Nat → Prop} {w w' : World} {m B : Nat} {V : Value × Value × Value} {T : Nat → Option Nat} {M : Nat → Nat} {rs ds : List Sp} {n : Nat} (h : Mx w m B V T M rs ds n) (hk : Keeps Z w w') (hn : ∀ j, Mine m B V T j → ¬ Z j) : Mx w' m B V T M rs ds n := by
  obtain ⟨L, S, X, h1, h2, h3, h4⟩ := h
  exact ⟨L, S, X, h1, h2, h3, h4.keeps hk hn⟩
theorem Mx.below {w w' : World} {m B : Nat} {V : Value × Value × Value} {T : Nat → Option Nat} {M : Nat → Nat} {rs ds : List Sp} {n : Nat} (h : Mx w m B V T M rs ds n) (hb : Below w.heap.size w w') : Mx w' m B V T M rs ds n :=
  h.keeps (Keeps.of_below (S := fun _ => False) hb) (fun _ _ h => h)
theorem Mx.lt {w : World} {m B : Nat} {V : Value × Value × Value} {T : Nat → Option Nat} {M : Nat → Nat} {rs ds : List Sp} {n : Nat} (h : Mx w m B V T M rs ds n) : m < w.heap.size := by
  obtain ⟨L, S, X, _, _, _, h4⟩ := h
  exact h4.lt
theorem Mx.mine_lt {w : World} {m B : Nat} {V : Value × Value × Value} {T : Nat → Option Nat} {M : Nat → Nat} {rs ds : List Sp} {n : Nat} (h : Mx w m B V T M rs ds n) {j : Nat} (hj : Mine m B V T j) : j < w.heap.size := by
  obtain ⟨L, S, X, _, _, _, h4⟩ := h
  exact h4.mine_lt hj
theorem Mac.sane {w : World} {m B : Nat} {V : Value × Value × Value} {T : Nat → Option Nat} {M : Nat → Nat} {rs ds : List Sp} {L S X : Nat} (h : Mac w m B V T M rs ds L S X) : Sane (rs ++ ds) := by
  obtain ⟨_, _, _, _, _, _, _, h6, _⟩ := h
  exact h6
theorem Mx.sane {w : World} {m B : Nat} {V : Value × Value × Value} {T : Nat → Option Nat} {M : Nat → Nat} {rs ds : List Sp} {n : Nat} (h : Mx w m B V T M rs ds n) : Sane (rs ++ ds) := by
  obtain ⟨L, S, X, _, _, _, h4⟩ := h
  exact h4.sane
/-- the Fault of an address: none, or why, at the address -/
def whyAt (why : Int) (v : Nat) : Nat := if why = 0 then 0 else v
set_option maxRecDepth 100000 in
set_option maxHeartbeats 4000000 in
theorem translate_any {w : World} {m B : Nat} {V : Value × Value × Value} {T : Nat → Option Nat} {M : Nat → Nat} {rs ds : List Sp} {n t v : Nat} {acc : Int} (h : Mx w m B V T M rs ds n) (ht : t ≤ 18446744073709551615) (hv : v ≤ 18446744073709551615) (hn : n ≤ 4611686018427387904) :
    Calls Tryz.prog 17 #[MemV m, .int .u64 (t : Int), .int .u64 (v : Int), .int .i64 acc] w fun e w' => e = .returned (.tuple #[.int .u64 ((adrF (rs ++ ds) M t v acc).1 : Int), FaultV (adrF (rs ++ ds) M t v acc).2 (whyAt (adrF (rs ++ ds) M t v acc).2 v : Int)]) ∧ Hid (Mx w' m B V T M rs ds (n + 1)) ∧ Hid (Keeps (fun j => j = m) w w') := by
  have HX : Hid (Mx w m B V T M rs ds n) := h
  have hml := h.lt
  obtain ⟨r, hr⟩ : ∃ r, r = adrF (rs ++ ds) M t v acc := ⟨_, rfl⟩
  have HZ : Hid (r.2 ≠ 0 → r.1 = 0) := by rw [hr]; exact adrF_zero
  have HA : Hid (Calls Tryz.prog 45 #[MemV m, .int .u64 (t : Int), .int .u64 (v : Int), .int .i64 acc] (w.alloc (Obj.cells #[.int .i64 0, .int .u64 0] 68)) fun e w' => e = .returned (.tuple #[.int .u64 (r.1 : Int), .int .i64 r.2]) ∧ Hid (Mx w' m B V T M rs ds (n + 1)) ∧ Hid (Keeps (fun j => j = m) (w.alloc (Obj.cells #[.int .i64 0, .int .u64 0] 68)) w')) := by
    obtain ⟨L, S, X, h1, h2, h3, h4⟩ := h
    refine (address_any (h4.below ((Below.refl _ _).alloc (Nat.le_refl _) _)) ht hv (by omega)).mono ?_
    rintro e w' ⟨r', b, rfl, ha, hm, hk⟩
    rw [addr_is ha, ← hr]
    exact ⟨rfl, ⟨L, S, up b X, by omega, by omega, by cases b <;> simp [up] <;> omega, hm⟩, hk⟩
  rw [← hr]
  unfold MemV at HA ⊢
  clear h hr
  obtain ⟨r1, r2⟩ := r
  simp only at HZ HA ⊢
  by_cases h0 : r2 = 0
  · subst h0
    go_enter Tryz.func17, Tryz.ntmps17
    go_wp2_with fail
    refine HA.out.mono ?_
    rintro e w1 ⟨rfl, HM1, HK1⟩
    have HX1 : Hid (BoxF w1 w.heap.size 0 0) := (BoxF.new w 0 0).keeps HK1.out (by omega)
    obtain ⟨x0, x1, f0, f1⟩ := HX1.out.cells
    clear HA
    go_wp2_with fail
    obtain ⟨d0, d1, _⟩ := (HX1.out.set 0 0).cells
    refine bodyPost_ret (v := .tuple #[.int .u64 (r1 : Int), .agg #[.int .i64 0, .int .u64 0]]) (by simp [results, Tryz.results17, go_sem, d0, d1]) rfl ?_
    have hk2 := Keeps.two w1 w.heap.size (.int .i64 0) (.int .u64 0)
    have hk1 : Keeps (fun j => j = m) w w1 := (Keeps.alloc (S := fun j => j = m) w _).trans HK1.out (fun _ _ e => e)
    exact ⟨rfl, HM1.out.keeps hk2 (fun j hj e => by have := HX.out.mine_lt hj; omega), hk1.trans hk2 (fun i hi e => absurd e (by omega))⟩
  · have h1 := HZ.out h0
    subst h1
    have HW : Hid (whyAt r2 v = v) := if_neg h0
    have h0e : (r2 == 0) = false := by simpa using h0
    go_enter Tryz.func17, Tryz.ntmps17
    go_wp2_with fail
    refine HA.out.mono ?_
    rintro e w1 ⟨rfl, HM1, HK1⟩
    have HX1 : Hid (BoxF w1 w.heap.size 0 0) := (BoxF.new w 0 0).keeps HK1.out (by omega)
    obtain ⟨x0, x1, f0, f1⟩ := HX1.out.cells
    clear HA
    go_wp2_with fail
    obtain ⟨d0, d1, _⟩ := (HX1.out.set r2 v).cells
    refine bodyPost_ret (v := .tuple #[.int .u64 0, .agg #[.int .i64 r2, .int .u64 (v : Int)]]) (by simp [results, Tryz.results17, go_sem, d0, d1]) rfl ?_
    have hk2 := Keeps.two w1 w.heap.size (.int .i64 r2) (.int .u64 (v : Int))
    have hk1 : Keeps (fun j => j = m) w w1 := (Keeps.alloc (S := fun j => j = m) w _).trans HK1.out (fun _ _ e => e)
    exact ⟨by rw [HW.out]; rfl, HM1.out.keeps hk2 (fun j hj e => by have := HX.out.mine_lt hj; omega), hk1.trans hk2 (fun i hi e => absurd e (by omega))⟩
end Go.Proofs.YtfnikcjcgneboaaGreat
/- reached over a machine. Own work. -/
namespace Go.Proofs.YtfnikcjcgneboaaGreat
open Go.RowKit Go.Maps Go.Proofs.YtfnikcjcgneboaaGreat.Sp Wk
/-- the i-th address of an access -/
def vv (v i : Nat) : Nat := (v + i) % 18446744073709551616
noncomputable def ad (LL : List Sp) (M : Nat → Nat) (t v : Nat) (acc : Int) (i : Nat) : Nat × Int := adrF LL M t (vv v i) acc
theorem find_first {α : Type} {f : Nat → Option α} {i k : Nat} {x : α} (h : ∀ j, j < i → f j = none) (hi : f i = some x) (hk : i < k) : (List.range k).findSome? f = some x := by
  induction k with
  | zero => omega
  | succ k ih =>
    rw [List.range_succ, List.findSome?_append]
    by_cases hik : i < k
    · rw [ih hik]; rfl
    · obtain rfl : i = k := by omega
      have : (List.range i).findSome? f = none := by
        rw [List.findSome?_eq_none_iff]
        intro j hj
        exact h j (by simpa using hj)
      rw [this]
      simp [hi]
theorem find_none {α : Type} {f : Nat → Option α} {k : Nat} (h : ∀ j, j < k → f j = none) : (List.range k).findSome? f = none := by
  rw [List.findSome?_eq_none_iff]
  intro j hj
  exact h j (by simpa using hj)
noncomputable def trBad (LL : List Sp) (M : Nat → Nat) (t v : Nat) (acc : Int) (k : Nat) : Option (Int × Nat) := (List.range k).findSome? fun i => if (ad LL M t v acc i).2 = 0 then none else some ((ad LL M t v acc i).2, vv v i)
open Classical in
noncomputable def offBad (LL : List Sp) (M : Nat → Nat) (t v : Nat) (acc : Int) (k : Nat) : Option (Int × Nat) := (List.range k).findSome? fun i => if On LL ((ad LL M t v acc i).1 : Int) then none else some (30, vv v i)
/-- why an access is refused, and where -/
noncomputable def reachF (LL : List Sp) (M : Nat → Nat) (t v : Nat) (acc : Int) (k : Nat) : Option (Int × Nat) := match trBad LL M t v acc k with | some x => some x | none => offBad LL M t v acc k
theorem reach_tr {LL : List Sp} {M : Nat → Nat} {t v : Nat} {acc : Int} {i k : Nat} (h : ∀ j, j < i → (ad LL M t v acc j).2 = 0) (hi : (ad LL M t v acc i).2 ≠ 0) (hk : i < k) : reachF LL M t v acc k = some ((ad LL M t v acc i).2, vv v i) := by
  have : trBad LL M t v acc k = some ((ad LL M t v acc i).2, vv v i) := find_first (fun j hj => if_pos (h j hj)) (if_neg hi) hk
  rw [reachF, this]
theorem reach_off {LL : List Sp} {M : Nat → Nat} {t v : Nat} {acc : Int} {i k : Nat} (h0 : ∀ j, j < k → (ad LL M t v acc j).2 = 0) (h : ∀ j, j < i → On LL ((ad LL M t v acc j).1 : Int)) (hi : ¬ On LL ((ad LL M t v acc i).1 : Int)) (hk : i < k) : reachF LL M t v acc k = some (30, vv v i) := by
  have : trBad LL M t v acc k = none := find_none (fun j hj => if_pos (h0 j hj))
  have h2 : offBad LL M t v acc k = some (30, vv v i) := find_first (fun j hj => if_pos (h j hj)) (if_neg hi) hk
  rw [reachF, this]
  exact h2
theorem reach_ok {LL : List Sp} {M : Nat → Nat} {t v : Nat} {acc : Int} {k : Nat} (h0 : ∀ j, j < k → (ad LL M t v acc j).2 = 0) (h : ∀ j, j < k → On LL ((ad LL M t v acc j).1 : Int)) : reachF LL M t v acc k = none := by
  have : trBad LL M t v acc k = none := find_none (fun j hj => if_pos (h0 j hj))
  have h2 : offBad LL M t v acc k = none := find_none (fun j hj => if_pos (h j hj))
  rw [reachF, this]
  exact h2
/-- a row of addresses -/
def RowA (w : World) (g : Nat) (L : List Nat) : Prop := w.heap[g]? = some (.cells (L.map fun z : Nat => Value.int .u64 (z : Int)).toArray 34 (0, 0))
theorem RowA.lt {w : World} {g : Nat} {L : List Nat} (h : RowA w g L) : g < w.heap.size := (Array.getElem?_eq_some_iff.1 h).1
theorem RowA.keeps {Z : Nat → Prop} {w w' : World} {g : Nat} {L : List Nat} (h : RowA w g L) (hk : Keeps Z w w') (hn : ¬ Z g) : RowA w' g L := (hk.block g h.lt hn).trans h
theorem RowA.below {w w' : World} {g : Nat} {L : List Nat} (h : RowA w g L) (hb : Below w.heap.size w w') : RowA w' g L := (hb.block g h.lt).trans h
theorem RowA.cell {w : World} {g : Nat} {L : List Nat} (h : RowA w g L) (j : Nat) (hj : j < L.length) : w.cell? ⟨g, j, none⟩ = some (.int .u64 (L[j] : Int)) := by
  rw [cell_of_row _ _ _ _ _ _ h]
  simp [hj]
theorem RowA.thawed {w : World} {g : Nat} {L : List Nat} (h : RowA w g L) (j : Nat) : w.frozen? ⟨g, j, none⟩ = false := by simp [World.frozen?, show w.heap[g]? = _ from h]
theorem RowA.set {w : World} {g : Nat} {L : List Nat} (h : RowA w g L) (j z : Nat) : RowA (w.setCell ⟨g, j, none⟩ (.int .u64 (z : Int))) g (L.set j z) := by
  have h0 : w.heap[g]? = some (.cells (L.map fun z : Nat => Value.int .u64 (z : Int)).toArray 34 (0, 0)) := h
  unfold RowA
  rw [List.map_set]
  simp [World.setCell, Array.getElem?_modify, h0]
theorem madeA {w : World} {base g n : Nat} (h : w.ownsRow base 34 1 (.slice (some ⟨g, 0, none⟩) n n) n (madeCells #[Value.int .u64 0] n).toList) : RowA w g (List.replicate n 0) := by
  rcases h.2 with ⟨hc, _⟩ | ⟨g', cap, cur, hv, _, hg, _, _, hs, ht⟩
  · cases hc
  · cases hv
    unfold RowA
    rw [hg]
    have e : cur.toList = List.replicate n (Value.int .u64 0) := by
      rw [List.take_of_length_le (by simp [hs])] at ht
      rw [ht]
      apply List.ext_getElem
      · simp [size_madeCells]
      · intro j h1 h2
        simp [madeCells, Nat.mod_one]
    have e2 : cur = (List.replicate n (Value.int .u64 0)).toArray := by rw [← e]
    rw [e2]
    simp
theorem info_u64a : (Tryz.prog.info? 34).map (fun i => (i.zero, i.size, i.bytes)) = some (some (.int .u64 0), 1, 8) := by kernel_rfl
/-- the first i addresses are there -/
noncomputable def upA (LL : List Sp) (M : Nat → Nat) (t v : Nat) (acc : Int) (k i : Nat) : List Nat := (List.range k).map fun j => if j < i then (ad LL M t v acc j).1 else 0
theorem upA_len (LL : List Sp) (M : Nat → Nat) (t v : Nat) (acc : Int) (k i : Nat) : (upA LL M t v acc k i).length = k := by simp [upA]
theorem upA_zero (LL : List Sp) (M : Nat → Nat) (t v : Nat) (acc : Int) (k : Nat) : upA LL M t v acc k 0 = List.replicate k 0 := by
  apply List.ext_getElem
  · simp [upA]
  · intro j h1 h2
    simp [upA]
theorem upA_step (LL : List Sp) (M : Nat → Nat) (t v : Nat) (acc : Int) (k i : Nat) : (upA LL M t v acc k i).set i (ad LL M t v acc i).1 = upA LL M t v acc k (i + 1) := by
  apply List.ext_getElem
  · simp [upA]
  · intro j h1 h2
    rw [List.getElem_set]
    by_cases e : i = j
    · subst e; simp [upA]
    · rw [if_neg e]
      simp only [upA, List.getElem_map, List.getElem_range]
      by_cases h : j < i
      · rw [if_pos h, if_pos (by omega)]
      · rw [if_neg h, if_neg (by omega)]
theorem upA_get (LL : List Sp) (M : Nat → Nat) (t v : Nat) (acc : Int) (k j : Nat) (hj : j < k) : (upA LL M t v acc k k)[j]'(by rw [upA_len]; exact hj) = (ad LL M t v acc j).1 := by simp [upA, hj]
/-- what reached answers -/
def ReachP (w : World) (LL : List Sp) (M : Nat → Nat) (t v : Nat) (acc : Int) (k : Nat) (e : Ending) (w' : World) : Prop :=
  (∃ why x, reachF LL M t v acc k = some (why, x) ∧ e = .returned (.tuple #[.slice none 0 0, FaultV why (x : Int)])) ∨
  (reachF LL M t v acc k = none ∧ (∀ j, j < k → (ad LL M t v acc j).2 = 0 ∧ On LL ((ad LL M t v acc j).1 : Int)) ∧ ∃ g, e = .returned (.tuple #[.slice (some ⟨g, 0, none⟩) k k, FaultV 0 0]) ∧ w.heap.size ≤ g ∧ RowA w' g (upA LL M t v acc k k))
set_option maxRecDepth 100000 in
set_option maxHeartbeats 1000000 in
theorem stray_any {v i : Nat} (w : World) (hi : i ≤ 8) : Calls Tryz.prog 60 #[.int .u64 (v : Int), .int .i64 (i : Int)] w fun e w' => e = .returned (FaultV 30 (vv v i : Int)) ∧ Below w.heap.size w w' := by
  have hw : IntKind.u64.wrap ((v : Int) + (i : Int)) = (vv v i : Int) := by rw [IntKind.wrap_u64, vv]; omega
  generalize vv v i = x at *
  have HX1 : Hid (BoxF (w.alloc (Obj.cells #[.int .i64 0, .int .u64 0] 68)) w.heap.size 0 0) := BoxF.new w 0 0
  go_enter Tryz.func60, Tryz.ntmps60
  go_wp2_with fail
  refine bodyPost_ret (v := .agg #[.int .i64 30, .int .u64 (x : Int)]) (by simp [results, Tryz.results60, go_sem]) rfl ?_
  exact ⟨rfl, (Below.refl _ _).alloc (Nat.le_refl _) _⟩
set_option maxRecDepth 100000 in
set_option maxHeartbeats 8000000 in
theorem reached_any {w : World} {m B : Nat} {V : Value × Value × Value} {T : Nat → Option Nat} {M : Nat → Nat} {rs ds : List Sp} {n t v k : Nat} {acc : Int} (h : Mx w m B V T M rs ds n) (ht : t ≤ 18446744073709551615) (hn : n ≤ 4611686018427380000) (hk : Wide k) :
    Calls Tryz.prog 59 #[MemV m, .int .u64 (t : Int), .int .u64 (v : Int), .int .i64 (k : Int), .int .i64 acc] w fun e w' => ReachP w (rs ++ ds) M t v acc k e w' ∧ Hid (Mx w' m B V T M rs ds (n + 16)) ∧ Hid (Keeps (fun j => j = m) w w') := by
  have HM : Hid (Mx w m B V T M rs ds n) := h
  have hml := h.lt
  have k1 : 1 ≤ k := by rcases hk with h | h | h | h <;> omega
  have k8 : k ≤ 8 := by rcases hk with h | h | h | h <;> omega
  have HTr : Hid (∀ W i, i < k → Mx W m B V T M rs ds (n + i) → Calls Tryz.prog 17 #[MemV m, .int .u64 (t : Int), .int .u64 (vv v i : Int), .int .i64 acc] W fun e w' => e = .returned (.tuple #[.int .u64 ((ad (rs ++ ds) M t v acc i).1 : Int), FaultV (ad (rs ++ ds) M t v acc i).2 (whyAt (ad (rs ++ ds) M t v acc i).2 (vv v i) : Int)]) ∧ Hid (Mx w' m B V T M rs ds (n + i + 1)) ∧ Hid (Keeps (fun j => j = m) W w')) := fun W i hi hW => translate_any hW ht (by unfold vv; omega) (by omega)
  have HPk : Hid (∀ W i, i < k → ∀ a : Nat, a ≤ 18446744073709551615 → Mx W m B V T M rs ds (n + k + i) → Calls Tryz.prog 142 #[.pointer (some ⟨m, 0, none⟩), .int .u64 (a : Int), .int .i64 1] W fun e w' => ∃ x b z, e = .returned (.tuple #[.int .u64 z, FaultV (if b then 30 else 0) x]) ∧ Hid (b = true ↔ ¬ On (rs ++ ds) (a : Int)) ∧ Hid (Mx w' m B V T M rs ds (n + k + i + 1)) ∧ Hid (Keeps (fun j => j = m) W w')) := fun W i hi a ha ⟨L, S, X, h1, h2, h3, h4⟩ => by
    refine (peek_any (n := 1) h4 ha (Or.inl rfl) (by omega)).mono ?_
    rintro e w' ⟨x, b, ho, rfl, hm, hk⟩
    refine ⟨x, b, _, rfl, ?_, ⟨L, S, up b X, by omega, by omega, by cases b <;> simp [up] <;> omega, hm⟩, hk⟩
    cases b with
    | true =>
      obtain ⟨i, hi, _, _, hn, _⟩ := ho.1 rfl
      obtain rfl : i = 0 := by omega
      exact ⟨fun _ => by simpa using hn, fun _ => rfl⟩
    | false =>
      have := (ho.2 rfl).2 0 (by omega)
      exact ⟨fun h => (by cases h), fun h => absurd (by simpa using this) h⟩
  have HAd : Hid (∀ i, (ad (rs ++ ds) M t v acc i).1 ≤ 18446744073709551615) := fun i => adrF_le _ _ _ _ _
  have hme : ∀ (w : World) (p : Option Addr), (method 323 28 (.pointer p) "Peek").run Tryz.prog w = .ok (142, .pointer p) w := fun _ _ => by kernel_rfl
  generalize rs ++ ds = LL at *
  obtain ⟨i, hi, hz0, hz1, hz2⟩ := info_parts info_u64a
  have HIf : Hid (Tryz.prog.info? 34 = some i ∧ i.zero = some (.int .u64 0) ∧ i.size = 1 ∧ i.bytes = 8) := ⟨hi, hz0, hz1, hz2⟩
  have HK : Hid (Wide k) := hk
  have HX0 : Hid (BoxF (w.alloc (Obj.cells #[.int .i64 0, .int .u64 0] 68)) w.heap.size 0 0) := BoxF.new w 0 0
  unfold MemV at HTr ⊢
  clear hi hz0 hz1 hz2 hk h
  go_enter Tryz.func59, Tryz.ntmps59
  go_upto_block 0 with fail
  go_cut [] (fun wx => wx = w.alloc (Obj.cells #[.int .i64 0, .int .u64 0] 68))
  case first =>
    rcases HK.out with rfl | rfl | rfl | rfl
    · go_wp2_with fail
      go_meet
      exact rfl
    · go_wp2_with fail
      go_meet
      exact rfl
    · go_wp2_with fail
      go_meet
      exact rfl
    · go_wp2_with fail
      go_meet
      exact rfl
  case rest =>
    have hcut := hcut.symm
    subst hcut
    go_wp2_with (at_make; refine wpList_make_full _ rfl _ _ 54 rfl w.heap.size 34 i (.int .u64 0) 1 Tryz.underlying54 HIf.out.1 HIf.out.2.1 HIf.out.2.2.1 _ _ _ _ k rfl rfl (by omega) (by omega) (by rw [HIf.out.2.2.2]; omega) (by simp only [maxLen]; omega) (by simp) ?_)
    intro w1 hown hgrow
    have HR1 : Hid (RowA w1 (w.heap.size + 1) (upA LL M t v acc k 0)) := by rw [upA_zero]; exact madeA hown
    have hb1 : Below (w.heap.size + 1) (w.alloc (Obj.cells #[.int .i64 0, .int .u64 0] 68)) w1 := (Below.refl _ _).grown hgrow (by simp) (by simp)
    have HX1 : Hid (BoxF w1 w.heap.size 0 0) := (hb1.block w.heap.size (Nat.lt_succ_self _)).trans HX0.out
    have hbw : Below w.heap.size w w1 := ((Below.refl _ _).alloc (Nat.le_refl _) _).trans (hb1.mono (Nat.le_succ _))
    have HM1 : Hid (Mx w1 m B V T M rs ds n) := HM.out.below hbw
    have HK1 : Hid (Keeps (fun j => j = m) w w1) := Keeps.of_below hbw
    clear hown hgrow hb1 hbw HX0 HIf
    go_wp2_with fail
    go_loopw [36] (fun iv wr => ∃ q : Nat, q ≤ k ∧ iv = .int .i64 (q : Int) ∧ Hid (RowA wr (w.heap.size + 1) (upA LL M t v acc k q)) ∧ Hid (BoxF wr w.heap.size 0 0) ∧ Hid (Mx wr m B V T M rs ds (n + q)) ∧ Hid (Keeps (fun j => j = m) w wr) ∧ Hid (∀ j, j < q → (ad LL M t v acc j).2 = 0)) (fun iv _ => k - (intOf iv).toNat)
    case atStart => exact ⟨0, Nat.zero_le _, rfl, HR1, HX1, HM1, HK1, fun j hj => absurd hj (Nat.not_lt_zero _)⟩
    case round =>
      clear HR1 HX1 HM1 HK1
      obtain ⟨q, hq, rfl, HR, HXr, HMr, HKr, HZ⟩ := hrel
      by_cases hlt : q < k
      · have HCl := Lib.hid (HTr.out wr q hlt HMr.out)
        have hwv : IntKind.u64.wrap ((v : Int) + (q : Int)) = (vv v q : Int) := by rw [IntKind.wrap_u64, vv]; omega
        have HUp : Hid ((upA LL M t v acc k q).set q (ad LL M t v acc q).1 = upA LL M t v acc k (q + 1)) := upA_step _ _ _ _ _ _ _
        have HBad : Hid ((ad LL M t v acc q).2 ≠ 0 → reachF LL M t v acc k = some ((ad LL M t v acc q).2, vv v q)) := fun h => reach_tr HZ.out h hlt
        have HGo : Hid ((ad LL M t v acc q).2 = 0 → ∀ j, j < q + 1 → (ad LL M t v acc j).2 = 0) := fun h j hj => by
          by_cases e : j = q
          · rw [e]; exact h
          · exact HZ.out j (by omega)
        generalize ad LL M t v acc q = r at *
        obtain ⟨r1, r2⟩ := r
        simp only at HCl HUp HBad HGo
        generalize hx : vv v q = x at *
        clear hx
        go_wp2_with fail
        refine HCl.out.mono ?_
        rintro e w2 ⟨rfl, HM2, HK2⟩
        have hm1 : m < w.heap.size := hml
        have HX2 : Hid (BoxF w2 w.heap.size 0 0) := HXr.out.keeps HK2.out (by omega)
        have HR2 : Hid (RowA w2 (w.heap.size + 1) (upA LL M t v acc k q)) := HR.out.keeps HK2.out (by omega)
        have HKw2 : Hid (Keeps (fun j => j = m) w w2) := HKr.out.trans HK2.out (fun _ _ e => e)
        have hlt2 := HR2.out.lt
        clear HCl HK2
        unfold FaultV
        by_cases h0 : r2 = 0
        · subst h0
          obtain ⟨c0, hc0⟩ : ∃ c0, (upA LL M t v acc k q)[q]'(by rw [upA_len]; exact hlt) = c0 := ⟨_, rfl⟩
          have y0 := (HR2.out.below ((Below.refl _ _).alloc (Nat.le_refl _) (Obj.cells #[.int .i64 0, .int .u64 (whyAt 0 x : Int)] 68))).cell q (by rw [upA_len]; exact hlt)
          have y1 := (HR2.out.below ((Below.refl _ _).alloc (Nat.le_refl _) (Obj.cells #[.int .i64 0, .int .u64 (whyAt 0 x : Int)] 68))).thawed q
          rw [hc0] at y0
          clear hc0
          have qi : (q : Int) < (k : Int) := by omega
          generalize (whyAt 0 x : Int) = wa at *
          go_wp2_with fail
          go_roundw
          case rel =>
            have hk3 : Keeps (fun j => j = w.heap.size + 1) w2 (w2.setCell ⟨w.heap.size + 1, q, none⟩ (.int .u64 (r1 : Int))) := Keeps.setCell _ _ _ _
            have hb4 : Below (w2.setCell ⟨w.heap.size + 1, q, none⟩ (.int .u64 (r1 : Int))).heap.size (w2.setCell ⟨w.heap.size + 1, q, none⟩ (.int .u64 (r1 : Int))) ((w2.setCell ⟨w.heap.size + 1, q, none⟩ (.int .u64 (r1 : Int))).alloc (Obj.cells #[.int .i64 0, .int .u64 wa] 68)) := (Below.refl _ _).alloc (Nat.le_refl _) _
            have t1 := (HX2.out.keeps hk3 (show ¬ (w.heap.size = w.heap.size + 1) by omega)).below hb4
            have t2 := (HKw2.out.trans hk3 (fun i hi e => absurd (show i = w.heap.size + 1 from e) (Nat.ne_of_lt (Nat.lt_succ_of_lt hi)))).trans (Keeps.of_below (S := fun _ => False) hb4) (fun _ _ h => h.elim)
            refine ⟨q + 1, by omega, by go_num, ?_, t1, (HM2.out.keeps hk3 (fun j hj e => ?_)).below hb4, t2, HGo.out (by trivial)⟩
            · have := (HR2.out.set q r1).below hb4
              rw [HUp.out] at this
              exact this
            · have := HM.out.mine_lt hj
              have e : j = w.heap.size + 1 := e
              omega
          case measure => simp [intOf]; omega
        · have h0e : (r2 == 0) = false := by simpa using h0
          have HRc := HBad.out h0
          have hwx : whyAt r2 x = x := if_neg h0
          rw [hwx]
          obtain ⟨W3, hW3⟩ : ∃ W3, w2.alloc (Obj.cells #[.int .i64 r2, .int .u64 (x : Int)] 68) = W3 := ⟨_, rfl⟩
          have HF3 : Hid (BoxF W3 w2.heap.size r2 x) := hW3 ▸ BoxF.new w2 r2 x
          have HX3 : Hid (BoxF W3 w.heap.size 0 0) := hW3 ▸ HX2.out.below ((Below.refl _ _).alloc (Nat.le_refl _) _)
          have HB3 : Hid (Below w2.heap.size w2 W3) := hW3 ▸ (Below.refl _ _).alloc (Nat.le_refl _) _
          have hne : w.heap.size ≠ w2.heap.size := by omega
          obtain ⟨x0, x1, f0, f1⟩ := HX3.out.cells
          obtain ⟨y0, y1, _, _⟩ := HF3.out.cells
          go_wp2_with fail
          clear hW3
          go_region_held3 (fun w' => w'.cell? ⟨w2.heap.size, 0, none⟩ = some (.int .i64 r2) ∧ w'.cell? ⟨w2.heap.size, 1, none⟩ = some (.int .u64 (x : Int))) (go_keep) (fail)
          go_wp2_with fail
          obtain ⟨d0, d1, _⟩ := BoxF.cells (w := ((W3.setCell ⟨w.heap.size, 0, none⟩ (.int .i64 r2)).setCell ⟨w.heap.size, 1, none⟩ (.int .u64 (x : Int))).drew) (HX3.out.set r2 x)
          refine bodyPost_ret (v := .tuple #[.slice none 0 0, .agg #[.int .i64 r2, .int .u64 (x : Int)]]) (by simp [results, Tryz.results59, go_sem, d0, d1]) rfl ?_
          have hk2 : Keeps (fun j => j = w.heap.size) W3 (((W3.setCell ⟨w.heap.size, 0, none⟩ (.int .i64 r2)).setCell ⟨w.heap.size, 1, none⟩ (.int .u64 (x : Int))).drew) := (Keeps.two W3 w.heap.size (.int .i64 r2) (.int .u64 (x : Int))).drew
          exact ⟨.inl ⟨r2, x, HRc, rfl⟩, ((HM2.out.mono (by omega)).below HB3.out).keeps hk2 (fun j hj e => by have := HM.out.mine_lt hj; omega), (HKw2.out.trans (Keeps.of_below (S := fun _ => False) HB3.out) (fun _ _ h => h.elim)).trans hk2 (fun i hi e => absurd e (by omega))⟩
      · obtain rfl : q = k := by omega
        obtain ⟨w2, hw2⟩ : ∃ w2, w2 = wr := ⟨_, rfl⟩
        subst hw2
        clear HTr hlt hq
        go_wp2_with fail
        go_loopw [61] (fun iv wr => ∃ p : Nat, p ≤ q ∧ iv = .int .i64 (p : Int) ∧ Hid (RowA wr (w.heap.size + 1) (upA LL M t v acc q q)) ∧ Hid (BoxF wr w.heap.size 0 0) ∧ Hid (Mx wr m B V T M rs ds (n + q + p)) ∧ Hid (Keeps (fun j => j = m) w wr) ∧ Hid (∀ j, j < p → On LL ((ad LL M t v acc j).1 : Int))) (fun iv _ => q - (intOf iv).toNat)
        case atStart => exact ⟨0, Nat.zero_le _, rfl, HR, HXr, HMr, HKr, fun j hj => absurd hj (Nat.not_lt_zero _)⟩
        case round =>
          clear HR HXr HMr HKr
          obtain ⟨p, hp, rfl, HR, HXr, HMr, HKr, HO⟩ := hrel
          by_cases hlt : p < q
          · have y0 := HR.out.cell p (by rw [upA_len]; exact hlt)
            rw [upA_get _ _ _ _ _ _ _ hlt] at y0
            have HCl := Lib.hid (HPk.out wr p hlt (ad LL M t v acc p).1 (HAd.out p) HMr.out)
            have HOff : Hid (¬ On LL ((ad LL M t v acc p).1 : Int) → reachF LL M t v acc q = some (30, vv v p)) := fun h => reach_off HZ.out HO.out h hlt
            have HGo : Hid (On LL ((ad LL M t v acc p).1 : Int) → ∀ j, j < p + 1 → On LL ((ad LL M t v acc j).1 : Int)) := fun h j hj => by
              by_cases e : j = p
              · rw [e]; exact h
              · exact HO.out j (by omega)
            generalize (ad LL M t v acc p).1 = r1 at *
            have qi : (p : Int) < (q : Int) := by omega
            go_wp2_with fail
            refine HCl.out.mono ?_
            rintro e w3 ⟨x, b, z, rfl, HBo, HM3, HK3⟩
            have hm1 : m < w.heap.size := hml
            have HX3 : Hid (BoxF w3 w.heap.size 0 0) := HXr.out.keeps HK3.out (by omega)
            have HR3 : Hid (RowA w3 (w.heap.size + 1) (upA LL M t v acc q q)) := HR.out.keeps HK3.out (by omega)
            have HKw3 : Hid (Keeps (fun j => j = m) w w3) := HKr.out.trans HK3.out (fun _ _ e => e)
            have hlt3 := HR3.out.lt
            clear HCl HK3 y0
            unfold FaultV
            cases b with
            | false =>
              have hon : On LL (r1 : Int) := by
                by_cases h : On LL (r1 : Int)
                · exact h
                · have := HBo.out.2 h; cases this
              have HGo2 := Lib.hid (HGo.out hon)
              simp only [Bool.false_eq_true, if_false]
              have HB4 : Hid (Below w3.heap.size w3 (w3.alloc (Obj.cells #[.int .i64 0, .int .u64 x] 68))) := (Below.refl _ _).alloc (Nat.le_refl _) _
              clear hon HGo HOff HBo
              go_wp2_with fail
              go_roundw
              case rel => exact ⟨p + 1, by omega, by go_num, HR3.out.below HB4.out, HX3.out.below HB4.out, HM3.out.below HB4.out, HKw3.out.trans (Keeps.of_below (S := fun _ => False) HB4.out) (fun _ _ h => h.elim), HGo2⟩
              case measure => simp [intOf]; omega
            | true =>
              have HRc := HOff.out (HBo.out.1 rfl)
              simp only [if_true]
              have HB4 : Hid (Below w3.heap.size w3 (w3.alloc (Obj.cells #[.int .i64 30, .int .u64 x] 68))) := (Below.refl _ _).alloc (Nat.le_refl _) _
              have HSt := Lib.hid (stray_any (v := v) (i := p) (w3.alloc (Obj.cells #[.int .i64 30, .int .u64 x] 68)) (by omega))
              clear HGo HOff HBo
              go_wp2_with fail
              refine HSt.out.mono ?_
              rintro e w5 ⟨rfl, hb5⟩
              have HB5 : Hid (Below w3.heap.size w3 w5) := HB4.out.trans (hb5.mono HB4.out.size)
              have HX5 : Hid (BoxF w5 w.heap.size 0 0) := HX3.out.below HB5.out
              obtain ⟨x0, x1, f0, f1⟩ := HX5.out.cells
              clear hb5 HSt
              unfold FaultV
              generalize vv v p = y at *
              go_wp2_with fail
              obtain ⟨d0, d1, _⟩ := (HX5.out.set 30 y).cells
              refine bodyPost_ret (v := .tuple #[.slice none 0 0, .agg #[.int .i64 30, .int .u64 (y : Int)]]) (by simp [results, Tryz.results59, go_sem, d0, d1]) rfl ?_
              have hk2 := Keeps.two w5 w.heap.size (.int .i64 30) (.int .u64 (y : Int))
              exact ⟨.inl ⟨30, y, HRc, rfl⟩, ((HM3.out.mono (by omega)).below HB5.out).keeps hk2 (fun j hj e => by have := HM.out.mine_lt hj; omega), (HKw3.out.trans (Keeps.of_below (S := fun _ => False) HB5.out) (fun _ _ h => h.elim)).trans hk2 (fun i hi e => absurd e (by omega))⟩
          · obtain rfl : p = q := by omega
            have HOk : Hid (reachF LL M t v acc p = none) := reach_ok HZ.out HO.out
            obtain ⟨x0, x1, f0, f1⟩ := HXr.out.cells
            go_wp2_with fail
            obtain ⟨d0, d1, _⟩ := (HXr.out.set 0 0).cells
            refine bodyPost_ret (v := .tuple #[.slice (some ⟨w.heap.size + 1, 0, none⟩) p p, .agg #[.int .i64 0, .int .u64 0]]) (by simp [results, Tryz.results59, go_sem, d0, d1]) rfl ?_
            have hk2 := Keeps.two wr w.heap.size (.int .i64 0) (.int .u64 0)
            exact ⟨.inr ⟨HOk.out, fun j hj => ⟨HZ.out j hj, HO.out j hj⟩, w.heap.size + 1, rfl, by omega, HR.out.keeps hk2 (by omega)⟩, (HMr.out.mono (by omega)).keeps hk2 (fun j hj e => by have := HM.out.mine_lt hj; omega), HKr.out.trans hk2 (fun i hi e => absurd e (by omega))⟩
end Go.Proofs.YtfnikcjcgneboaaGreat
/- Load and Fetch over a machine. Own work. -/
namespace Go.Proofs.YtfnikcjcgneboaaGreat
open Go.RowKit Go.Maps Go.Proofs.YtfnikcjcgneboaaGreat.Sp Wk
theorem rowT_lt {w : World} {t : TypeId} {g : Nat} {L : List Nat} (h : RowT w t g L) : g < w.heap.size := (Array.getElem?_eq_some_iff.1 h).1
theorem rowT_keeps {Z : Nat → Prop} {w w' : World} {t : TypeId} {g : Nat} {L : List Nat} (h : RowT w t g L) (hk : Keeps Z w w') (hn : ¬ Z g) : RowT w' t g L := (hk.block g (rowT_lt h) hn).trans h
theorem rowT_below {w w' : World} {t : TypeId} {g : Nat} {L : List Nat} (h : RowT w t g L) (hb : Below w.heap.size w w') : RowT w' t g L := (hb.block g (rowT_lt h)).trans h
theorem rowT_cell {w : World} {t : TypeId} {g : Nat} {L : List Nat} (h : RowT w t g L) (j : Nat) (hj : j < L.length) : w.cell? ⟨g, j, none⟩ = some (.int .u8 ((L[j] : Nat) : Int)) := by
  rw [cell_of_row _ _ _ _ _ _ h]
  simp [bvs, hj]
theorem rowT_thawed {w : World} {t : TypeId} {g : Nat} {L : List Nat} (h : RowT w t g L) (j : Nat) : w.frozen? ⟨g, j, none⟩ = false := by simp [World.frozen?, show w.heap[g]? = _ from h]
theorem rowT_set {w : World} {t : TypeId} {g : Nat} {L : List Nat} (h : RowT w t g L) (j z : Nat) : RowT (w.setCell ⟨g, j, none⟩ (.int .u8 ((z : Nat) : Int))) t g (L.set j z) := by
  have h0 : w.heap[g]? = some (.cells (bvs L).toArray t (0, 0)) := h
  unfold RowT
  have e : bvs (L.set j z) = (bvs L).set j (.int .u8 ((z : Nat) : Int)) := by unfold bvs; rw [List.map_set]
  rw [e]
  simp [World.setCell, Array.getElem?_modify, h0]
/-- the first i bytes of an access -/
noncomputable def upB (LL : List Sp) (M : Nat → Nat) (t v : Nat) (acc : Int) (i : Nat) : List Nat := (List.range 8).map fun j => if j < i then M (ad LL M t v acc j).1 else 0
theorem upB_len (LL : List Sp) (M : Nat → Nat) (t v : Nat) (acc : Int) (i : Nat) : (upB LL M t v acc i).length = 8 := by simp [upB]
theorem upB_zero (LL : List Sp) (M : Nat → Nat) (t v : Nat) (acc : Int) : upB LL M t v acc 0 = [0, 0, 0, 0, 0, 0, 0, 0] := by
  apply List.ext_getElem
  · simp [upB]
  · intro j h1 h2
    have hj : j < 8 := by simpa [upB] using h1
    simp only [upB, List.getElem_map, Nat.not_lt_zero, if_false]
    rcases (by omega : j = 0 ∨ j = 1 ∨ j = 2 ∨ j = 3 ∨ j = 4 ∨ j = 5 ∨ j = 6 ∨ j = 7) with rfl | rfl | rfl | rfl | rfl | rfl | rfl | rfl <;> rfl
theorem upB_step (LL : List Sp) (M : Nat → Nat) (t v : Nat) (acc : Int) (i : Nat) : (upB LL M t v acc i).set i (M (ad LL M t v acc i).1) = upB LL M t v acc (i + 1) := by
  apply List.ext_getElem
  · simp [upB]
  · intro j h1 h2
    rw [List.getElem_set]
    by_cases e : i = j
    · subst e; simp [upB]
    · rw [if_neg e]
      simp only [upB, List.getElem_map, List.getElem_range]
      by_cases h : j < i
      · rw [if_pos h, if_pos (by omega)]
      · rw [if_neg h, if_neg (by omega)]
theorem upB_small {LL : List Sp} {M : Nat → Nat} (hM : ∀ p, M p < 256) (t v : Nat) (acc : Int) (i : Nat) : ∀ z ∈ upB LL M t v acc i, z < 256 := by
  intro z hz
  obtain ⟨j, _, rfl⟩ := List.mem_map.1 hz
  split
  · exact hM _
  · omega
theorem num_one (M : Nat → Nat) (a : Nat) : Pl.num 8 (rdTo M a 8 1) = M a := by
  have : rdTo M a 8 1 = [M a, 0, 0, 0, 0, 0, 0, 0] := by simp [rdTo, bytesAt]
  rw [this]
  simp [Pl.num, Pl.acc]
/-- what an access answers -/
noncomputable def takeN (LL : List Sp) (M : Nat → Nat) (t v : Nat) (acc : Int) (k : Nat) : Nat := Pl.num 8 (upB LL M t v acc k)
noncomputable def takeV (LL : List Sp) (M : Nat → Nat) (t v : Nat) (acc : Int) (k : Nat) : Nat × Int × Nat := match reachF LL M t v acc k with | some (why, x) => (0, why, x) | none => (takeN LL M t v acc k, 0, 0)
theorem Mx.small {w : World} {m B : Nat} {V : Value × Value × Value} {T : Nat → Option Nat} {M : Nat → Nat} {rs ds : List Sp} {n : Nat} (h : Mx w m B V T M rs ds n) : ∀ p, M p < 256 := by
  obtain ⟨L, S, X, _, _, _, h4⟩ := h
  exact h4.held.2.2.2.2.1
theorem reach_why {LL : List Sp} {M : Nat → Nat} {t v : Nat} {acc : Int} {k : Nat} {why : Int} {x : Nat} (h : reachF LL M t v acc k = some (why, x)) : why ≠ 0 := by
  unfold reachF at h
  split at h
  · rename_i y hy
    cases h
    unfold trBad at hy
    obtain ⟨i, _, hi⟩ := List.exists_of_findSome?_eq_some hy
    split at hi
    · cases hi
    · cases hi; assumption
  · unfold offBad at h
    obtain ⟨i, _, hi⟩ := List.exists_of_findSome?_eq_some h
    split at hi
    · cases hi
    · cases hi; decide
set_option maxRecDepth 100000 in
set_option maxHeartbeats 8000000 in
theorem take_any {w : World} {m B : Nat} {V : Value × Value × Value} {T : Nat → Option Nat} {M : Nat → Nat} {rs ds : List Sp} {n t v k : Nat} {acc : Int} (h : Mx w m B V T M rs ds n) (ht : t ≤ 18446744073709551615) (hn : n ≤ 4611686018427370000) (hk : Wide k) :
    Calls Tryz.prog 46 #[MemV m, .int .u64 (t : Int), .int .u64 (v : Int), .int .i64 (k : Int), .int .i64 acc] w fun e w' => e = .returned (.tuple #[.int .u64 ((takeV (rs ++ ds) M t v acc k).1 : Int), FaultV (takeV (rs ++ ds) M t v acc k).2.1 ((takeV (rs ++ ds) M t v acc k).2.2 : Int)]) ∧ Hid (Mx w' m B V T M rs ds (n + 32)) ∧ Hid (Keeps (fun j => j = m) w w') := by
  have HM : Hid (Mx w m B V T M rs ds n) := h
  have hml := h.lt
  have k8 : k ≤ 8 := by rcases hk with h | h | h | h <;> omega
  have HSm : Hid (∀ p, M p < 256) := h.small
  have HRe : Hid (Calls Tryz.prog 59 #[MemV m, .int .u64 (t : Int), .int .u64 (v : Int), .int .i64 (k : Int), .int .i64 acc] (w.alloc (Obj.cells #[.int .i64 0, .int .u64 0] 68)) fun e w' => ReachP (w.alloc (Obj.cells #[.int .i64 0, .int .u64 0] 68)) (rs ++ ds) M t v acc k e w' ∧ Hid (Mx w' m B V T M rs ds (n + 16)) ∧ Hid (Keeps (fun j => j = m) (w.alloc (Obj.cells #[.int .i64 0, .int .u64 0] 68)) w')) := reached_any (h.below ((Below.refl _ _).alloc (Nat.le_refl _) _)) ht (by omega) hk
  have HLd : Hid (∀ W i, i < k → ∀ a : Nat, a ≤ 18446744073709551615 → On (rs ++ ds) (a : Int) → Mx W m B V T M rs ds (n + 16 + i) → Calls Tryz.prog 141 #[.pointer (some ⟨m, 0, none⟩), .int .u64 (a : Int), .int .i64 1] W fun e w' => e = .returned (.tuple #[.int .u64 ((M a : Nat) : Int), FaultV 0 0]) ∧ Hid (Mx w' m B V T M rs ds (n + 16 + i + 1)) ∧ Hid (Keeps (fun j => j = m) W w')) := fun W i hi a ha hon ⟨L, S, X, h1, h2, h3, h4⟩ => by
    refine (load_any (n := 1) h4 ha (Or.inl rfl) (by omega) (by omega)).mono ?_
    rintro e w' ⟨x, b, ho, rfl, hm, hk⟩
    cases b with
    | true =>
      obtain ⟨i, hi, _, _, hn, _⟩ := ho.1 rfl
      obtain rfl : i = 0 := by omega
      exact absurd (by simpa using hon) hn
    | false =>
      have hx := (ho.2 rfl).1
      subst hx
      rw [num_one]
      exact ⟨rfl, ⟨L + 1, S, X, by omega, by omega, by omega, hm⟩, hk⟩
  have HAd : Hid (∀ i, (ad (rs ++ ds) M t v acc i).1 ≤ 18446744073709551615) := fun i => adrF_le _ _ _ _ _
  have hme : ∀ (w : World) (p : Option Addr), (method 323 28 (.pointer p) "Load").run Tryz.prog w = .ok (141, .pointer p) w := fun _ _ => by kernel_rfl
  generalize rs ++ ds = LL at *
  have HX0 : Hid (BoxF (w.alloc (Obj.cells #[.int .i64 0, .int .u64 0] 68)) w.heap.size 0 0) := BoxF.new w 0 0
  unfold MemV at HRe ⊢
  clear hk h
  go_enter Tryz.func46, Tryz.ntmps46
  go_wp2_with fail
  refine HRe.out.mono ?_
  rintro e w1 ⟨hP, HM1, HK1⟩
  have HX1 : Hid (BoxF w1 w.heap.size 0 0) := HX0.out.keeps HK1.out (by omega)
  have HKw1 : Hid (Keeps (fun j => j = m) w w1) := (Keeps.alloc (S := fun j => j = m) w _).trans HK1.out (fun _ _ e => e)
  have hlt1 := HX1.out.lt
  clear HRe HX0 HK1
  rcases hP with ⟨why, x, hre, rfl⟩ | ⟨hre, hall, g, rfl, hg, hrow⟩
  · have HV : Hid (takeV LL M t v acc k = (0, why, x)) := by show _ = _; rw [takeV, hre]
    have h0 := reach_why hre
    have h0e : (why == 0) = false := by simpa using h0
    obtain ⟨W3, hW3⟩ : ∃ W3, w1.alloc (Obj.cells #[.int .i64 why, .int .u64 (x : Int)] 68) = W3 := ⟨_, rfl⟩
    have HF3 : Hid (BoxF W3 w1.heap.size why x) := hW3 ▸ BoxF.new w1 why x
    have HX3 : Hid (BoxF W3 w.heap.size 0 0) := hW3 ▸ HX1.out.below ((Below.refl _ _).alloc (Nat.le_refl _) _)
    have HB3 : Hid (Below w1.heap.size w1 W3) := hW3 ▸ (Below.refl _ _).alloc (Nat.le_refl _) _
    have hne : w.heap.size ≠ w1.heap.size := by omega
    obtain ⟨x0, x1, f0, f1⟩ := HX3.out.cells
    obtain ⟨y0, y1, _, _⟩ := HF3.out.cells
    unfold FaultV
    clear hre
    go_wp2_with fail
    clear hW3
    go_region_held3 (fun w' => w'.cell? ⟨w1.heap.size, 0, none⟩ = some (.int .i64 why) ∧ w'.cell? ⟨w1.heap.size, 1, none⟩ = some (.int .u64 (x : Int))) (go_keep) (fail)
    go_wp2_with fail
    obtain ⟨d0, d1, _⟩ := BoxF.cells (w := ((W3.setCell ⟨w.heap.size, 0, none⟩ (.int .i64 why)).setCell ⟨w.heap.size, 1, none⟩ (.int .u64 (x : Int))).drew) (HX3.out.set why x)
    refine bodyPost_ret (v := .tuple #[.int .u64 0, .agg #[.int .i64 why, .int .u64 (x : Int)]]) (by simp [results, Tryz.results46, go_sem, d0, d1]) rfl ?_
    have hk2 : Keeps (fun j => j = w.heap.size) W3 (((W3.setCell ⟨w.heap.size, 0, none⟩ (.int .i64 why)).setCell ⟨w.heap.size, 1, none⟩ (.int .u64 (x : Int))).drew) := (Keeps.two W3 w.heap.size (.int .i64 why) (.int .u64 (x : Int))).drew
    exact ⟨by rw [HV.out]; rfl, ((HM1.out.mono (by omega)).below HB3.out).keeps hk2 (fun j hj e => by have := HM.out.mine_lt hj; omega), (HKw1.out.trans (Keeps.of_below (S := fun _ => False) HB3.out) (fun _ _ h => h.elim)).trans hk2 (fun i hi e => absurd e (by omega))⟩
  · have HV : Hid (takeV LL M t v acc k = (takeN LL M t v acc k, 0, 0)) := by show _ = _; rw [takeV, hre]
    have HAll : Hid (∀ j, j < k → (ad LL M t v acc j).2 = 0 ∧ On LL ((ad LL M t v acc j).1 : Int)) := hall
    have HRw : Hid (RowA w1 g (upA LL M t v acc k k)) := hrow
    have hgl : w.heap.size < g ∧ g < w1.heap.size := ⟨by simp at hg; omega, hrow.lt⟩
    obtain ⟨hg1, hg2⟩ := hgl
    clear hre hall hrow hg
    unfold FaultV
    go_wp2_with fail
    obtain ⟨W2, hW2⟩ : ∃ W2, (w1.alloc (Obj.cells #[.int .i64 0, .int .u64 0] 68)).alloc (Obj.cells #[.int .u8 0, .int .u8 0, .int .u8 0, .int .u8 0, .int .u8 0, .int .u8 0, .int .u8 0, .int .u8 0] 151) = W2 := ⟨_, rfl⟩
    have HB2 : Hid (Below w1.heap.size w1 W2) := hW2 ▸ ((Below.refl _ _).alloc (Nat.le_refl _) _).alloc (by simp) _
    have HR2 : Hid (RowT W2 151 (w1.heap.size + 1) (upB LL M t v acc 0)) := by rw [← hW2, upB_zero]; exact heap_alloc_new' (by simp) _
    rw [hW2]
    have s8 := slice8_all
    have HX2 : Hid (BoxF W2 w.heap.size 0 0) := HX1.out.below HB2.out
    have HRw2 : Hid (RowA W2 g (upA LL M t v acc k k)) := HRw.out.below HB2.out
    have HM2 : Hid (Mx W2 m B V T M rs ds (n + 16)) := HM1.out.below HB2.out
    have HKw2 : Hid (Keeps (fun j => j = m) w W2) := HKw1.out.trans (Keeps.of_below (S := fun _ => False) HB2.out) (fun _ _ h => h.elim)
    clear hW2 HX1 HRw HM1 HKw1
    generalize hgb : w1.heap.size + 1 = gb at *
    have hgb2 : g < gb := by omega
    clear hgb
    go_loopw [36] (fun iv wr => ∃ q : Nat, q ≤ k ∧ iv = .int .i64 (q : Int) ∧ Hid (RowA wr g (upA LL M t v acc k k)) ∧ Hid (RowT wr 151 gb (upB LL M t v acc q)) ∧ Hid (BoxF wr w.heap.size 0 0) ∧ Hid (Mx wr m B V T M rs ds (n + 16 + q)) ∧ Hid (Keeps (fun j => j = m) w wr)) (fun iv _ => k - (intOf iv).toNat)
    case atStart => exact ⟨0, Nat.zero_le _, rfl, HRw2, HR2, HX2, HM2, HKw2⟩
    case round =>
      clear HRw2 HR2 HX2 HM2 HKw2
      obtain ⟨q, hq, rfl, HRw, HR, HXr, HMr, HKr⟩ := hrel
      by_cases hlt : q < k
      · have y0 := HRw.out.cell q (by rw [upA_len]; exact hlt)
        rw [upA_get _ _ _ _ _ _ _ hlt] at y0
        have HCl := Lib.hid (HLd.out wr q hlt (ad LL M t v acc q).1 (HAd.out q) (HAll.out q hlt).2 HMr.out)
        have HUp : Hid ((upB LL M t v acc q).set q (M (ad LL M t v acc q).1) = upB LL M t v acc (q + 1)) := upB_step _ _ _ _ _ _
        have hsm := HSm.out (ad LL M t v acc q).1
        generalize (ad LL M t v acc q).1 = r1 at *
        generalize M r1 = z at *
        have qi : (q : Int) < (k : Int) := by omega
        have q8 : (q : Int) < 8 := by omega
        have q8n : q < 8 := by omega
        have hz8 : IntKind.u8.wrap (z : Int) = (z : Int) := by rw [IntKind.wrap_u8]; omega
        go_wp2_with fail
        refine HCl.out.mono ?_
        rintro e w3 ⟨rfl, HM3, HK3⟩
        have hm1 : m < w.heap.size := hml
        have HX3 : Hid (BoxF w3 w.heap.size 0 0) := HXr.out.keeps HK3.out (by omega)
        have HR3 : Hid (RowT w3 151 gb (upB LL M t v acc q)) := rowT_keeps HR.out HK3.out (by omega)
        have HRw3 : Hid (RowA w3 g (upA LL M t v acc k k)) := HRw.out.keeps HK3.out (by omega)
        have HKw3 : Hid (Keeps (fun j => j = m) w w3) := HKr.out.trans HK3.out (fun _ _ e => e)
        have hlt3 := rowT_lt HR3.out
        obtain ⟨c0, hc0⟩ : ∃ c0, (upB LL M t v acc q)[q]'(by rw [upB_len]; exact q8n) = c0 := ⟨_, rfl⟩
        have u0 := rowT_cell (rowT_below HR3.out ((Below.refl _ _).alloc (Nat.le_refl _) (Obj.cells #[.int .i64 0, .int .u64 0] 68))) q (by rw [upB_len]; exact q8n)
        have u1 := rowT_thawed (rowT_below HR3.out ((Below.refl _ _).alloc (Nat.le_refl _) (Obj.cells #[.int .i64 0, .int .u64 0] 68))) q
        rw [hc0] at u0
        clear HCl HK3 y0 hc0
        unfold FaultV
        go_wp2_with fail
        go_roundw
        case rel =>
          have hk3 : Keeps (fun j => j = gb) w3 (w3.setCell ⟨gb, q, none⟩ (.int .u8 ((z : Nat) : Int))) := Keeps.setCell _ _ _ _
          have hb4 : Below (w3.setCell ⟨gb, q, none⟩ (.int .u8 ((z : Nat) : Int))).heap.size (w3.setCell ⟨gb, q, none⟩ (.int .u8 ((z : Nat) : Int))) ((w3.setCell ⟨gb, q, none⟩ (.int .u8 ((z : Nat) : Int))).alloc (Obj.cells #[.int .i64 0, .int .u64 0] 68)) := (Below.refl _ _).alloc (Nat.le_refl _) _
          have t1 := (HX3.out.keeps hk3 (show ¬ (w.heap.size = gb) by omega)).below hb4
          have t2 := (HKw3.out.trans hk3 (fun i hi e => absurd (show i = gb from e) (by omega))).trans (Keeps.of_below (S := fun _ => False) hb4) (fun _ _ h => h.elim)
          have t3 := (HRw3.out.keeps hk3 (show ¬ (g = gb) by omega)).below hb4
          have t4 := rowT_below (rowT_set HR3.out q z) hb4
          rw [HUp.out] at t4
          exact ⟨q + 1, by omega, by go_num, t3, t4, t1, (HM3.out.keeps hk3 (fun j hj e => by have := HM.out.mine_lt hj; have e : j = gb := e; omega)).below hb4, t2⟩
        case measure => simp [intOf]; omega
      · obtain rfl : q = k := by omega
        have HGt := Lib.hid (get_u64_yes (rowT_sl HR.out (upB_len _ _ _ _ _ _) (upB_small HSm.out _ _ _ _)) (Nat.le_of_eq (upB_len _ _ _ _ _ _).symm))
        have HNm : Hid (Pl.num 8 (upB LL M t v acc q) = takeN LL M t v acc q) := rfl
        rw [HNm.out] at HGt
        generalize takeN LL M t v acc q = N at *
        obtain ⟨x0, x1, f0, f1⟩ := HXr.out.cells
        go_wp2_with (first | (go_at_call 70; refine HGt.out.mono ?_; rintro e w' ⟨rfl, hw⟩; have hw := hw.symm; subst hw))
        obtain ⟨d0, d1, _⟩ := (HXr.out.set 0 0).cells
        refine bodyPost_ret (v := .tuple #[.int .u64 (N : Int), .agg #[.int .i64 0, .int .u64 0]]) (by simp [results, Tryz.results46, go_sem, d0, d1]) rfl ?_
        have hk2 := Keeps.two wr w.heap.size (.int .i64 0) (.int .u64 0)
        exact ⟨by rw [HV.out]; rfl, (HMr.out.mono (by omega)).keeps hk2 (fun j hj e => by have := HM.out.mine_lt hj; omega), HKr.out.trans hk2 (fun i hi e => absurd e (by omega))⟩
end Go.Proofs.YtfnikcjcgneboaaGreat
