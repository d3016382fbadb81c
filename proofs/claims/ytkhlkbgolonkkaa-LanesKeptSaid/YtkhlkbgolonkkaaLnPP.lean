/- Lanes: the queue's Pop. Own work. -/
import Derived.Test.YtkhlkbgolonkkaaLnUp
import Derived.WalkSmall
namespace Go.Proofs.Ytkhlkbgolonkkaa
open Go.RowKit
set_option linter.unusedVariables false
/-- a job, as an any -/
def JobV (x : J4) : Value := .iface 86 (.agg #[.int .i64 x.n, .int .i64 x.r, .int .i64 x.d, .int .i64 x.l])
theorem Hq.below {w w' : World} {k base : Nat} {v : Value} {xs : List J4} (h : Hq w k base v xs) (hb : Below w.heap.size w w') : Hq w' k base v xs :=
  ⟨(hb.block k h.lt).trans h.blk, h.own.below hb, h.ge, h.ne⟩
theorem Hq.popped {w : World} {k base g cap : Nat} {xs : List J4} {x : J4} (h : Hq w k base (.slice (some ⟨g, 0, none⟩) (xs ++ [x]).length cap) (xs ++ [x])) :
    Hq (w.setCell ⟨k, 0, none⟩ (.slice (some ⟨g, 0, none⟩) xs.length cap)) k base (.slice (some ⟨g, 0, none⟩) xs.length cap) xs := by
  have h1 : w.ownsRow base 86 4 (.slice (some ⟨g, 0, none⟩) (xs.length + 1) cap) (xs.length + 1) (enc4s xs ++ enc4 x) := by
    have h0 := h.own
    unfold OwnJ at h0
    rw [enc4s_append, show enc4s [x] = enc4 x from List.append_nil _, List.length_append, List.length_singleton] at h0
    exact h0
  have h2 : OwnJ w base (.slice (some ⟨g, 0, none⟩) xs.length cap) xs := ownsRow_pop (enc4s_length xs) h1
  have hne : g ≠ k := fun e => h.ne (by rw [← e]; rfl)
  refine ⟨?_, h2.keeps (Keeps.setCell w k 0 _) (fun j hj e => hne (by cases hj; exact e)), h.ge, h.ne⟩
  simp [World.setCell, Array.getElem?_modify, h.blk]
set_option maxRecDepth 100000 in
set_option maxHeartbeats 1000000 in
theorem qpop_any {w : World} {k base : Nat} {v : Value} {xs : List J4} {x : J4} (h : Hq w k base v (xs ++ [x])) :
    Calls Try.prog 84 #[.pointer (some ⟨k, 0, none⟩)] w fun e w' => e = .returned (JobV x) ∧ ∃ v', Hq w' k base v' xs ∧ Kq k v w w' ∧ v'.ownBlock = v.ownBlock := by
  obtain ⟨g, cap, rfl, hg1, hg2, hc, hm⟩ := h.own.pos (by simp)
  have x0 := h.cell
  obtain ⟨c0, c1, c2, c3⟩ := h.own.cells xs.length (by simp)
  simp only [List.getElem_concat_length] at c0 c1 c2 c3
  rw [List.length_append, List.length_singleton] at x0 hc
  have HH := Lib.hid h
  have hf : w.frozen? ⟨k, 0, none⟩ = false := by simp [World.frozen?, h.blk]
  have hkl := h.lt
  have hkn : k ≠ w.heap.size := by omega
  unfold maxLen at hm
  obtain ⟨n, hn⟩ : ∃ n, xs.length = n := ⟨_, rfl⟩
  have HN := Lib.hid hn
  rw [hn] at x0 hc c0 c1 c2 c3
  obtain ⟨p, hp⟩ : ∃ p, n + 1 = p := ⟨_, rfl⟩
  have HP := Lib.hid hp
  rw [hp] at x0 hc
  have jw : IntKind.i64.wrap ((p : Int) - 1) = (n : Int) := by rw [IntKind.wrap_i64]; omega
  have j1 : (n : Int) < (p : Int) := by omega
  have j2 : n ≤ cap := by omega
  clear h hn hp
  go_enter Try.func84, Try.ntmps84
  go_wp2_with fail
  go_ret
  refine ⟨rfl, .slice (some ⟨g, 0, none⟩) n cap, ?_, ?_, rfl⟩
  rotate_left
  · exact ((Keeps.setCell w k 0 _).trans (Keeps.alloc _ _) (fun _ _ e => e)).mono fun _ _ e => .inl e
  · have h9 := HH.out.popped
    rw [HN.out] at h9
    exact h9.below ((Below.refl _ _).alloc (Nat.le_refl _) _)
end Go.Proofs.Ytkhlkbgolonkkaa
