/- Lanes: rows of slots in memory. Own work. -/
import Derived.Test.YtkhlkbgolonkkaaSWord
import Derived.Lib.Hide
import Derived.Deep.RegionHeld3
import Derived.Deep.DeepCutAuto
import Derived.Deep.CutBlock
namespace Go.Proofs.Ytkhlkbgolonkkaa
open Go.RowKit
/-- a slot -/
structure S3 where
  s : ByteArray
  f : Int
  t : Int
def enc3 (x : S3) : List Value := [.string x.s, .int .i64 x.f, .int .i64 x.t]
def enc3s (xs : List S3) : List Value := xs.flatMap enc3
theorem enc3s_length (xs : List S3) : (enc3s xs).length = xs.length * 3 := by
  induction xs with
  | nil => rfl
  | cons x xs ih => simp only [enc3s, List.flatMap_cons, List.length_append, List.length_cons] at ih ⊢; rw [ih]; simp only [enc3, List.length_cons, List.length_nil]; omega
theorem enc3s_append (xs ys : List S3) : enc3s (xs ++ ys) = enc3s xs ++ enc3s ys := by simp [enc3s]
theorem enc3_one (t : S3) : ∀ u ∈ enc3 t, u.oneCell' = true := by
  intro u hu
  simp only [enc3, List.mem_cons, List.not_mem_nil, or_false] at hu
  rcases hu with rfl | rfl | rfl <;> rfl
theorem enc3s_get (xs : List S3) (j i : Nat) (h : j < xs.length) (hi : i < 3) : (enc3s xs)[j * 3 + i]? = (enc3 xs[j])[i]? := by
  induction xs generalizing j with
  | nil => simp at h
  | cons x xs ih =>
    cases j with
    | zero =>
      rw [show enc3s (x :: xs) = enc3 x ++ enc3s xs from rfl, List.getElem?_append_left (by simp [enc3]; omega)]
      simp
    | succ j =>
      have := ih j (by simpa using h)
      rw [show enc3s (x :: xs) = enc3 x ++ enc3s xs from rfl, List.getElem?_append_right (by simp [enc3]; omega)]
      rw [show (j + 1) * 3 + i - (enc3 x).length = j * 3 + i by simp [enc3]; omega, this]
      rfl
theorem info_slot : (Try.prog.info? 37).map (fun i => (i.zero, i.size, i.bytes)) = some (some (.agg #[.string ⟨#[]⟩, .int .i64 0, .int .i64 0]), 3, 32) := by kernel_rfl
/-- a row of slots that is owned from base on -/
def OwnS (w : World) (base : Nat) (v : Value) (xs : List S3) : Prop := w.ownsRow base 37 3 v xs.length (enc3s xs)
theorem OwnS.nil (w : World) (base : Nat) : OwnS w base (.slice none 0 0) [] := ⟨rfl, .inl ⟨rfl, rfl⟩⟩
theorem OwnS.lt {w : World} {base : Nat} {v : Value} {xs : List S3} (h : OwnS w base v xs) : ∀ k, v.ownBlock = some k → base ≤ k ∧ k < w.heap.size := World.ownsRow.lt h
theorem OwnS.keeps {S : Nat → Prop} {w w' : World} {base : Nat} {v : Value} {xs : List S3} (h : OwnS w base v xs) (hk : Keeps S w w') (hn : ∀ k, v.ownBlock = some k → ¬ S k) : OwnS w' base v xs := by
  refine ⟨h.1, ?_⟩
  rcases h.2 with hv | ⟨g, cap, cur, rfl, hb, hgg, rest⟩
  · exact .inl hv
  · refine .inr ⟨g, cap, cur, rfl, hb, ?_, rest⟩
    rw [hk.block g (Array.getElem?_eq_some_iff.1 hgg).1 (hn g rfl)]
    exact hgg
theorem OwnS.below {w w' : World} {base : Nat} {v : Value} {xs : List S3} (h : OwnS w base v xs) (hb : Below w.heap.size w w') : OwnS w' base v xs := h.keeps (Keeps.of_below (S := fun _ => False) hb) (fun _ _ e => e)
theorem OwnS.form {w : World} {base : Nat} {v : Value} {xs : List S3} (h : OwnS w base v xs) : ∃ a c, v = .slice a xs.length c := by
  rcases h.2 with ⟨rfl, h0⟩ | ⟨g, cap, cur, rfl, _⟩
  · exact ⟨none, 0, by rw [h0]⟩
  · exact ⟨_, _, rfl⟩
/-- a slot in a block of its own -/
def B3 (w : World) (g : Nat) (t : S3) : Prop := w.heap[g]? = some (.cells (enc3 t).toArray 37 (0, 0))
theorem B3.cells {w : World} {g : Nat} {t : S3} (h : B3 w g t) : w.cell? ⟨g, 0, none⟩ = some (.string t.s) ∧ w.cell? ⟨g, 1, none⟩ = some (.int .i64 t.f) ∧ w.cell? ⟨g, 2, none⟩ = some (.int .i64 t.t) := by
  refine ⟨?_, ?_, ?_⟩ <;> rw [cell_of_row w g _ _ _ _ h] <;> rfl
theorem run_append3 {w : World} {base : Nat} {v : Value} {xs : List S3} {t : S3} {g cap : Nat} (at1 ty : TypeId) (hu : Try.prog.underlying at1 = some (.slice 37)) (hown : OwnS w base v xs) (hg : B3 w g t) (hb : xs.length ≤ 1048576) (hbase : base ≤ w.heap.size) :
    ∃ v' w', (Builtin.append_ #[at1, at1] ty #[v, .slice (some ⟨g, 0, none⟩) 1 cap]).run Try.prog w = .ok v' w' ∧ OwnS w' base v' (xs ++ [t]) ∧ w.grownBy w' v.ownBlock ∧ (v'.ownBlock = v.ownBlock ∨ v'.ownBlock = some w.heap.size) := by
  obtain ⟨i, hi, hz0, hz1, hz2⟩ := info_parts info_slot
  obtain ⟨h0, h1, h2⟩ := hg.cells
  obtain ⟨v', w', r1, r2, r3, _, r5⟩ := run_append_own_at (P := Try.prog) w base at1 ty 37 i (.agg #[.string ⟨#[]⟩, .int .i64 0, .int .i64 0]) 3 32 hu hi hz0 hz1 hz2 rfl (by omega) v xs.length (enc3s xs) hown ⟨g, 0, none⟩ 1 cap (enc3 t) rfl (fun j u hj => by
    rw [Addr.add_lit, Nat.zero_add]
    match j, hj with
    | 0, hj => rw [h0]; exact hj
    | 1, hj => rw [h1]; exact hj
    | 2, hj => rw [h2]; exact hj) (enc3_one t) (by unfold maxLen; omega) (by omega) hbase
  refine ⟨v', w', r1, ?_, r3, r5⟩
  unfold OwnS
  rw [List.length_append, enc3s_append, show enc3s [t] = enc3 t from List.append_nil _]
  exact r2
/-- slots that are read, wherever they lie -/
def Rd3 (w : World) (v : Value) (xs : List S3) : Prop :=
  ∃ ao cap, v = .slice ao xs.length cap ∧ xs.length ≤ cap ∧ cap ≤ maxLen ∧ ∀ i (h : i < xs.length), ∃ b o, ao = some ⟨b, o, none⟩ ∧ w.cell? ⟨b, o + i * 3, none⟩ = some (.string xs[i].s) ∧ w.cell? ⟨b, o + (i * 3 + 1), none⟩ = some (.int .i64 xs[i].f) ∧ w.cell? ⟨b, o + (i * 3 + 2), none⟩ = some (.int .i64 xs[i].t)
theorem Rd3.below {w w' : World} {v : Value} {xs : List S3} {B : Nat} (h : Rd3 w v xs) (hv : ∀ k, v.ownBlock = some k → k < B) (hb : Below B w w') : Rd3 w' v xs := by
  obtain ⟨ao, cap, rfl, h1, h2, h3⟩ := h
  refine ⟨ao, cap, rfl, h1, h2, fun i hi => ?_⟩
  obtain ⟨b, o, rfl, c0, c1, c2⟩ := h3 i hi
  have hl : b < B := hv b rfl
  exact ⟨b, o, rfl, by rw [hb.cell (p := ⟨b, _, none⟩) hl]; exact c0, by rw [hb.cell (p := ⟨b, _, none⟩) hl]; exact c1, by rw [hb.cell (p := ⟨b, _, none⟩) hl]; exact c2⟩
theorem OwnS.cell {w : World} {base g n cap : Nat} {xs : List S3} (h : OwnS w base (.slice (some ⟨g, 0, none⟩) n cap) xs) (j i : Nat) (hj : j < xs.length) (hi : i < 3) : w.cell? ⟨g, j * 3 + i, none⟩ = (enc3 xs[j])[i]? := by
  rcases h.2 with ⟨e, _⟩ | ⟨g', c', cur, e, hb, hg, h1, h2, hs, ht⟩
  · cases e
  · simp only [Value.slice.injEq, Option.some.injEq, Addr.mk.injEq] at e
    obtain ⟨⟨rfl, _⟩, _, _⟩ := e
    rw [cell_of_row _ _ _ _ _ _ hg, ← Array.getElem?_toList, ← enc3s_get xs j i hj hi, ← ht, List.getElem?_take_of_lt (by omega)]
theorem OwnS.rd {w : World} {base : Nat} {v : Value} {xs : List S3} (h : OwnS w base v xs) : Rd3 w v xs := by
  have h' := h
  rcases h.2 with ⟨rfl, h0⟩ | ⟨g, cap, cur, rfl, hb, hg, h1, h2, hs, ht⟩
  · exact ⟨none, 0, by rw [h0], by omega, Nat.zero_le _, fun i hi => by omega⟩
  · refine ⟨_, cap, rfl, h1, h2, fun i hi => ⟨g, 0, rfl, ?_, ?_, ?_⟩⟩
    · rw [Nat.zero_add]; exact h'.cell i 0 hi (by omega)
    · rw [Nat.zero_add]; exact h'.cell i 1 hi (by omega)
    · rw [Nat.zero_add]; exact h'.cell i 2 hi (by omega)
end Go.Proofs.Ytkhlkbgolonkkaa
