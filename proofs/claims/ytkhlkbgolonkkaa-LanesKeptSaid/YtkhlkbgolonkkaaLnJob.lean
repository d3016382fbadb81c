/- Lanes: rows of jobs in memory; the queue's Len, Less, Swap. Own work. -/
import Derived.Test.YtkhlkbgolonkkaaLnMem
import Derived.Laws.OwnMore
namespace Go.Proofs.Ytkhlkbgolonkkaa
open Go.RowKit
/-- a job -/
structure J4 where
  n : Int
  r : Int
  d : Int
  l : Int
def enc4 (x : J4) : List Value := [.int .i64 x.n, .int .i64 x.r, .int .i64 x.d, .int .i64 x.l]
def enc4s (xs : List J4) : List Value := xs.flatMap enc4
theorem enc4s_length (xs : List J4) : (enc4s xs).length = xs.length * 4 := by
  induction xs with
  | nil => rfl
  | cons x xs ih => simp only [enc4s, List.flatMap_cons, List.length_append, List.length_cons] at ih ⊢; rw [ih]; simp only [enc4, List.length_cons, List.length_nil]; omega
theorem enc4s_append (xs ys : List J4) : enc4s (xs ++ ys) = enc4s xs ++ enc4s ys := by simp [enc4s]
theorem enc4_one (t : J4) : ∀ u ∈ enc4 t, u.oneCell' = true := by
  intro u hu
  simp only [enc4, List.mem_cons, List.not_mem_nil, or_false] at hu
  rcases hu with rfl | rfl | rfl | rfl <;> rfl
theorem enc4s_get (xs : List J4) (j i : Nat) (h : j < xs.length) (hi : i < 4) : (enc4s xs)[j * 4 + i]? = (enc4 xs[j])[i]? := by
  induction xs generalizing j with
  | nil => simp at h
  | cons x xs ih =>
    cases j with
    | zero =>
      rw [show enc4s (x :: xs) = enc4 x ++ enc4s xs from rfl, List.getElem?_append_left (by simp [enc4]; omega)]
      simp
    | succ j =>
      have := ih j (by simpa using h)
      rw [show enc4s (x :: xs) = enc4 x ++ enc4s xs from rfl, List.getElem?_append_right (by simp [enc4]; omega)]
      rw [show (j + 1) * 4 + i - (enc4 x).length = j * 4 + i by simp [enc4]; omega, this]
      rfl
/-- one cell of one job is put -/
theorem enc4s_set (xs : List J4) (j i : Nat) (h : j < xs.length) (hi : i < 4) (y : J4) (v : Value) (hy : (enc4 xs[j]).set i v = enc4 y) : (enc4s xs).set (j * 4 + i) v = enc4s (xs.set j y) := by
  induction xs generalizing j with
  | nil => simp at h
  | cons x xs ih =>
    cases j with
    | zero =>
      simp only [List.getElem_cons_zero] at hy
      rw [show enc4s (x :: xs) = enc4 x ++ enc4s xs from rfl, List.set_append_left _ _ (by simp [enc4]; omega), Nat.zero_mul, Nat.zero_add, hy]
      rfl
    | succ j =>
      have := ih j (by simpa using h) (by simpa using hy)
      rw [show enc4s (x :: xs) = enc4 x ++ enc4s xs from rfl, List.set_append_right _ _ (by simp [enc4]; omega)]
      rw [show (j + 1) * 4 + i - (enc4 x).length = j * 4 + i by simp [enc4]; omega, this]
      rfl
theorem info_job : (Try.prog.info? 86).map (fun i => (i.zero, i.size, i.bytes)) = some (some (.agg #[.int .i64 0, .int .i64 0, .int .i64 0, .int .i64 0]), 4, 32) := by kernel_rfl
/-- a row of jobs that is owned from base on -/
def OwnJ (w : World) (base : Nat) (v : Value) (xs : List J4) : Prop := w.ownsRow base 86 4 v xs.length (enc4s xs)
theorem OwnJ.nil (w : World) (base : Nat) : OwnJ w base (.slice none 0 0) [] := ⟨rfl, .inl ⟨rfl, rfl⟩⟩
theorem OwnJ.lt {w : World} {base : Nat} {v : Value} {xs : List J4} (h : OwnJ w base v xs) : ∀ k, v.ownBlock = some k → base ≤ k ∧ k < w.heap.size := World.ownsRow.lt h
theorem OwnJ.keeps {S : Nat → Prop} {w w' : World} {base : Nat} {v : Value} {xs : List J4} (h : OwnJ w base v xs) (hk : Keeps S w w') (hn : ∀ k, v.ownBlock = some k → ¬ S k) : OwnJ w' base v xs := by
  refine ⟨h.1, ?_⟩
  rcases h.2 with hv | ⟨g, cap, cur, rfl, hb, hgg, rest⟩
  · exact .inl hv
  · refine .inr ⟨g, cap, cur, rfl, hb, ?_, rest⟩
    rw [hk.block g (Array.getElem?_eq_some_iff.1 hgg).1 (hn g rfl)]
    exact hgg
theorem OwnJ.below {w w' : World} {base : Nat} {v : Value} {xs : List J4} (h : OwnJ w base v xs) (hb : Below w.heap.size w w') : OwnJ w' base v xs := h.keeps (Keeps.of_below (S := fun _ => False) hb) (fun _ _ e => e)
theorem OwnJ.drew {w : World} {base : Nat} {v : Value} {xs : List J4} (h : OwnJ w base v xs) : OwnJ w.drew base v xs := h
theorem OwnJ.form {w : World} {base : Nat} {v : Value} {xs : List J4} (h : OwnJ w base v xs) : ∃ a c, v = .slice a xs.length c := by
  rcases h.2 with ⟨rfl, h0⟩ | ⟨g, cap, cur, rfl, _⟩
  · exact ⟨none, 0, by rw [h0]⟩
  · exact ⟨_, _, rfl⟩
theorem OwnJ.pos {w : World} {base : Nat} {v : Value} {xs : List J4} (h : OwnJ w base v xs) (hp : 0 < xs.length) : ∃ g cap, v = .slice (some ⟨g, 0, none⟩) xs.length cap ∧ base ≤ g ∧ g < w.heap.size ∧ xs.length ≤ cap ∧ cap ≤ maxLen := by
  rcases h.2 with ⟨rfl, h0⟩ | ⟨g, cap, cur, rfl, hb, hg, h1, h2, _⟩
  · omega
  · exact ⟨g, cap, rfl, hb, (Array.getElem?_eq_some_iff.1 hg).1, h1, h2⟩
theorem OwnJ.cell {w : World} {base g cap : Nat} {xs : List J4} (h : OwnJ w base (.slice (some ⟨g, 0, none⟩) xs.length cap) xs) (j i : Nat) (hj : j < xs.length) (hi : i < 4) : w.cell? ⟨g, j * 4 + i, none⟩ = (enc4 xs[j])[i]? := by
  rw [World.ownsRow.cellAt h (j * 4 + i) (by omega)]
  exact enc4s_get xs j i hj hi
theorem OwnJ.thawed {w : World} {base g cap : Nat} {xs : List J4} (h : OwnJ w base (.slice (some ⟨g, 0, none⟩) xs.length cap) xs) (i : Nat) : w.frozen? ⟨g, i, none⟩ = false := World.ownsRow.frozenAt h i
/-- the four cells of a job -/
theorem OwnJ.cells {w : World} {base g cap : Nat} {xs : List J4} (h : OwnJ w base (.slice (some ⟨g, 0, none⟩) xs.length cap) xs) (j : Nat) (hj : j < xs.length) :
    w.cell? ⟨g, j * 4, none⟩ = some (.int .i64 xs[j].n) ∧ w.cell? ⟨g, j * 4 + 1, none⟩ = some (.int .i64 xs[j].r) ∧ w.cell? ⟨g, j * 4 + 2, none⟩ = some (.int .i64 xs[j].d) ∧ w.cell? ⟨g, j * 4 + 3, none⟩ = some (.int .i64 xs[j].l) :=
  ⟨h.cell j 0 hj (by omega), h.cell j 1 hj (by omega), h.cell j 2 hj (by omega), h.cell j 3 hj (by omega)⟩
theorem OwnJ.set {w : World} {base g cap : Nat} {xs : List J4} (h : OwnJ w base (.slice (some ⟨g, 0, none⟩) xs.length cap) xs) (j i : Nat) (hj : j < xs.length) (hi : i < 4) (y : J4) (v : Value) (hy : (enc4 xs[j]).set i v = enc4 y) : OwnJ (w.setCell ⟨g, j * 4 + i, none⟩ v) base (.slice (some ⟨g, 0, none⟩) xs.length cap) (xs.set j y) := by
  have h9 := World.ownsRow.stored h (j * 4 + i) v
  unfold OwnJ
  rw [List.length_set, ← enc4s_set xs j i hj hi y v hy]
  exact h9.1
theorem qlen_any (a : Option Addr) (n c : Nat) (w : World) : Calls Try.prog 81 #[.slice a n c] w fun e w' => e = .returned (.int .i64 (n : Int)) ∧ w' = w := by
  go_enter Try.func81, Try.ntmps81
  go_wp2
  go_ret
  exact ⟨rfl, rfl⟩
/-- who runs ahead -/
def aheadJ (x y : J4) : Bool := if x.d = y.d then decide (x.n < y.n) else decide (x.d < y.d)
set_option maxRecDepth 100000 in
set_option maxHeartbeats 1000000 in
theorem qless_at {w : World} {g n cap i j : Nat} {a b c d : Int} (hi : i < n) (hj : j < n) (h0 : w.cell? ⟨g, i * 4, none⟩ = some (.int .i64 a)) (h1 : w.cell? ⟨g, j * 4, none⟩ = some (.int .i64 b)) (h2 : w.cell? ⟨g, i * 4 + 2, none⟩ = some (.int .i64 c)) (h3 : w.cell? ⟨g, j * 4 + 2, none⟩ = some (.int .i64 d)) :
    Calls Try.prog 82 #[.slice (some ⟨g, 0, none⟩) n cap, .int .i64 (i : Int), .int .i64 (j : Int)] w fun e w' => e = .returned (.bool (if c = d then decide (a < b) else decide (c < d))) ∧ w' = w.drew.drew := by
  have i1 : (i : Int) < (n : Int) := by omega
  have i2 : (j : Int) < (n : Int) := by omega
  by_cases hcd : c = d
  · rw [if_pos hcd]
    subst hcd
    go_enter Try.func82, Try.ntmps82
    go_wp2_with fail
    go_region_held3 (fun w' => w'.cell? ⟨g, i * 4, none⟩ = some (.int .i64 a) ∧ w'.cell? ⟨g, j * 4, none⟩ = some (.int .i64 b) ∧ w'.cell? ⟨g, i * 4 + 2, none⟩ = some (.int .i64 c) ∧ w'.cell? ⟨g, j * 4 + 2, none⟩ = some (.int .i64 c)) (go_keep) (fail)
    all_goals
      go_wp2_with fail
      go_region_held3 (fun w' => w'.cell? ⟨g, i * 4, none⟩ = some (.int .i64 a) ∧ w'.cell? ⟨g, j * 4, none⟩ = some (.int .i64 b) ∧ w'.cell? ⟨g, i * 4 + 2, none⟩ = some (.int .i64 c) ∧ w'.cell? ⟨g, j * 4 + 2, none⟩ = some (.int .i64 c)) (go_keep) (fail)
      all_goals
        go_wp2_with fail
        go_ret
        exact ⟨rfl, rfl⟩
  · rw [if_neg hcd]
    go_enter Try.func82, Try.ntmps82
    go_wp2_with fail
    go_region_held3 (fun w' => w'.cell? ⟨g, i * 4, none⟩ = some (.int .i64 a) ∧ w'.cell? ⟨g, j * 4, none⟩ = some (.int .i64 b) ∧ w'.cell? ⟨g, i * 4 + 2, none⟩ = some (.int .i64 c) ∧ w'.cell? ⟨g, j * 4 + 2, none⟩ = some (.int .i64 d)) (go_keep) (fail)
    all_goals
      go_wp2_with fail
      go_region_held3 (fun w' => w'.cell? ⟨g, i * 4, none⟩ = some (.int .i64 a) ∧ w'.cell? ⟨g, j * 4, none⟩ = some (.int .i64 b) ∧ w'.cell? ⟨g, i * 4 + 2, none⟩ = some (.int .i64 c) ∧ w'.cell? ⟨g, j * 4 + 2, none⟩ = some (.int .i64 d)) (go_keep) (fail)
      all_goals
        go_wp2_with fail
        go_ret
        exact ⟨rfl, rfl⟩
end Go.Proofs.Ytkhlkbgolonkkaa
