/- Lanes: the queue's Swap. Own work. -/
import Derived.Test.YtkhlkbgolonkkaaLnJob
import Derived.RegionTactic
namespace Go.Proofs.Ytkhlkbgolonkkaa
open Go.RowKit
/-- a job is laid -/
def put4 (w : World) (g k : Nat) (y : J4) : World := (((w.setCell ⟨g, k * 4, none⟩ (.int .i64 y.n)).setCell ⟨g, k * 4 + 1, none⟩ (.int .i64 y.r)).setCell ⟨g, k * 4 + 2, none⟩ (.int .i64 y.d)).setCell ⟨g, k * 4 + 3, none⟩ (.int .i64 y.l)
theorem OwnJ.put {w : World} {base g cap : Nat} {xs : List J4} (h : OwnJ w base (.slice (some ⟨g, 0, none⟩) xs.length cap) xs) (j : Nat) (hj : j < xs.length) (y : J4) : OwnJ (put4 w g j y) base (.slice (some ⟨g, 0, none⟩) xs.length cap) (xs.set j y) := by
  have h1 := h.set j 0 hj (by omega) ⟨y.n, xs[j].r, xs[j].d, xs[j].l⟩ (.int .i64 y.n) rfl
  have e1 : (xs.set j ⟨y.n, xs[j].r, xs[j].d, xs[j].l⟩).length = xs.length := by simp
  rw [← e1] at h1
  have h2 := h1.set j 1 (by simpa using hj) (by omega) ⟨y.n, y.r, xs[j].d, xs[j].l⟩ (.int .i64 y.r) (by simp [enc4])
  rw [List.set_set, e1] at h2
  have e2 : (xs.set j ⟨y.n, y.r, xs[j].d, xs[j].l⟩).length = xs.length := by simp
  rw [← e2] at h2
  have h3 := h2.set j 2 (by simpa using hj) (by omega) ⟨y.n, y.r, y.d, xs[j].l⟩ (.int .i64 y.d) (by simp [enc4])
  rw [List.set_set, e2] at h3
  have e3 : (xs.set j ⟨y.n, y.r, y.d, xs[j].l⟩).length = xs.length := by simp
  rw [← e3] at h3
  have h4 := h3.set j 3 (by simpa using hj) (by omega) y (.int .i64 y.l) (by simp [enc4])
  rw [List.set_set, e3] at h4
  exact h4
theorem put4_keeps (w : World) (g k : Nat) (y : J4) : Keeps (fun b => b = g) w (put4 w g k y) :=
  (((Keeps.setCell _ _ _ _).trans (Keeps.setCell _ _ _ _) (fun _ _ h => h)).trans (Keeps.setCell _ _ _ _) (fun _ _ h => h)).trans (Keeps.setCell _ _ _ _) (fun _ _ h => h)
set_option maxRecDepth 100000 in
set_option maxHeartbeats 1000000 in
theorem qswap_at {w : World} {g n cap i j : Nat} {a0 a1 a2 a3 b0 b1 b2 b3 : Int} (hi : i < n) (hj : j < n) (hne : i ≠ j) (hf : ∀ k, w.frozen? ⟨g, k, none⟩ = false) (h0 : w.cell? ⟨g, i * 4, none⟩ = some (.int .i64 a0)) (h1 : w.cell? ⟨g, i * 4 + 1, none⟩ = some (.int .i64 a1)) (h2 : w.cell? ⟨g, i * 4 + 2, none⟩ = some (.int .i64 a2)) (h3 : w.cell? ⟨g, i * 4 + 3, none⟩ = some (.int .i64 a3))
    (k0 : w.cell? ⟨g, j * 4, none⟩ = some (.int .i64 b0)) (k1 : w.cell? ⟨g, j * 4 + 1, none⟩ = some (.int .i64 b1)) (k2 : w.cell? ⟨g, j * 4 + 2, none⟩ = some (.int .i64 b2)) (k3 : w.cell? ⟨g, j * 4 + 3, none⟩ = some (.int .i64 b3)) :
    Calls Try.prog 83 #[.slice (some ⟨g, 0, none⟩) n cap, .int .i64 (i : Int), .int .i64 (j : Int)] w fun e w' => e = .returned (.tuple #[]) ∧ w' = (put4 (put4 w g i ⟨b0, b1, b2, b3⟩) g j ⟨a0, a1, a2, a3⟩).drew := by
  have i1 : (i : Int) < (n : Int) := by omega
  have i2 : (j : Int) < (n : Int) := by omega
  have f0 := hf (i * 4)
  have f1 := hf (i * 4 + 1)
  have f2 := hf (i * 4 + 2)
  have f3 := hf (i * 4 + 3)
  have g0 := hf (j * 4)
  have g1 := hf (j * 4 + 1)
  have g2 := hf (j * 4 + 2)
  have g3 := hf (j * 4 + 3)
  clear hf
  go_enter Try.func83, Try.ntmps83
  go_wp2_with fail
  go_region
  go_wp2_with fail
  go_end0
  exact ⟨rfl, rfl⟩
set_option maxRecDepth 100000 in
set_option maxHeartbeats 1000000 in
theorem qswap_self {w : World} {g n cap i : Nat} {a0 a1 a2 a3 : Int} (hi : i < n) (hf : ∀ k, w.frozen? ⟨g, k, none⟩ = false) (h0 : w.cell? ⟨g, i * 4, none⟩ = some (.int .i64 a0)) (h1 : w.cell? ⟨g, i * 4 + 1, none⟩ = some (.int .i64 a1)) (h2 : w.cell? ⟨g, i * 4 + 2, none⟩ = some (.int .i64 a2)) (h3 : w.cell? ⟨g, i * 4 + 3, none⟩ = some (.int .i64 a3)) :
    Calls Try.prog 83 #[.slice (some ⟨g, 0, none⟩) n cap, .int .i64 (i : Int), .int .i64 (i : Int)] w fun e w' => e = .returned (.tuple #[]) ∧ w' = (put4 (put4 w g i ⟨a0, a1, a2, a3⟩) g i ⟨a0, a1, a2, a3⟩).drew := by
  have i1 : (i : Int) < (n : Int) := by omega
  have f0 := hf (i * 4)
  have f1 := hf (i * 4 + 1)
  have f2 := hf (i * 4 + 2)
  have f3 := hf (i * 4 + 3)
  clear hf
  go_enter Try.func83, Try.ntmps83
  go_wp2_with fail
  go_region
  go_wp2_with fail
  go_end0
  exact ⟨rfl, rfl⟩
/-- two jobs change places -/
def swapJ (xs : List J4) (i j : Nat) (hi : i < xs.length) (hj : j < xs.length) : List J4 := (xs.set i xs[j]).set j xs[i]
theorem qswap_any {w : World} {base : Nat} {v : Value} {xs : List J4} {i j : Nat} (h : OwnJ w base v xs) (hi : i < xs.length) (hj : j < xs.length) :
    Calls Try.prog 83 #[v, .int .i64 (i : Int), .int .i64 (j : Int)] w fun e w' => e = .returned (.tuple #[]) ∧ OwnJ w' base v (swapJ xs i j hi hj) ∧ Keeps (fun b => v.ownBlock = some b) w w' := by
  obtain ⟨g, cap, rfl, hb, hg, hc, hm⟩ := h.pos (by omega)
  obtain ⟨h0, h1, h2, h3⟩ := h.cells i hi
  obtain ⟨k0, k1, k2, k3⟩ := h.cells j hj
  have hcall : Calls Try.prog 83 #[.slice (some ⟨g, 0, none⟩) xs.length cap, .int .i64 (i : Int), .int .i64 (j : Int)] w fun e w' => e = .returned (.tuple #[]) ∧ w' = (put4 (put4 w g i xs[j]) g j xs[i]).drew := by
    by_cases hne : i = j
    · subst hne
      exact qswap_self hi h.thawed h0 h1 h2 h3
    · exact qswap_at hi hj hne h.thawed h0 h1 h2 h3 k0 k1 k2 k3
  refine hcall.mono ?_
  rintro e w' ⟨rfl, rfl⟩
  refine ⟨rfl, ?_, ?_⟩
  · have p1 := h.put i hi xs[j]
    have e1 : (xs.set i xs[j]).length = xs.length := by simp
    rw [← e1] at p1
    have p2 := p1.put j (by simpa using hj) xs[i]
    rw [e1] at p2
    exact p2.drew
  · exact (((put4_keeps _ _ _ _).trans (put4_keeps _ _ _ _) (fun _ _ h => h)).drew).mono (fun b _ hb => by rw [hb]; rfl)
end Go.Proofs.Ytkhlkbgolonkkaa
