/- clone; numbers as bytes; the Writer's calls. -/
import Derived.Test.YtinjhgimhboigaaDoorKeeps
namespace Go.Proofs.YtinjhgimhboigaaDoor
open Go.RowKit
namespace Pl
/-- a number's bytes, the lowest first -/
def le : Nat → Nat → List Nat
  | 0, _ => []
  | k + 1, n => n % 256 :: le k (n / 256)
theorem le_length (k n : Nat) : (le k n).length = k := by
  induction k generalizing n with
  | zero => rfl
  | succ k ih => simp [le, ih]
theorem le_small (k n : Nat) : ∀ z ∈ le k n, z < 256 := by
  induction k generalizing n with
  | zero => intro z hz; cases hz
  | succ k ih =>
    intro z hz
    rcases List.mem_cons.1 hz with rfl | h
    · omega
    · exact ih _ z h
/-- the number without its k lowest bytes -/
def shr : Nat → Nat → Nat
  | 0, n => n
  | k + 1, n => shr k n / 256
theorem le_snoc (k n : Nat) : le (k + 1) n = le k n ++ [shr k n % 256] := by
  induction k generalizing n with
  | zero => rfl
  | succ k ih =>
    have e : ∀ k n, shr k (n / 256) = shr (k + 1) n := by
      intro k n
      induction k with
      | zero => rfl
      | succ k ih2 => show shr k (n / 256) / 256 = _; rw [ih2]; rfl
    rw [show le (k + 1 + 1) n = n % 256 :: le (k + 1) (n / 256) from rfl, ih, e]
    rfl
theorem shr_le (k n : Nat) : shr k n ≤ n := by
  induction k with
  | zero => exact Nat.le_refl _
  | succ k ih => show shr k n / 256 ≤ n; omega
end Pl
set_option maxRecDepth 100000 in
set_option maxHeartbeats 2000000 in
theorem clone_any {v : Value} {p : List Nat} {w : World} (hv : Sl w v p) (hp : p.length ≤ 1099511627776) :
    Calls Tryd.prog 49 #[v] w fun e w' => e = .returned (.slice (some ⟨w.heap.size, 0, none⟩) p.length p.length) ∧ Row w' w.heap.size p ∧ Below w.heap.size w w' := by
  obtain ⟨ao, cap, rfl, h1, h2, h3, h4, h5⟩ := hv
  obtain ⟨i, hi, hz0, hz1, hz2⟩ := info_parts info_byte
  have H5 : Hid (∀ i, i < p.length → ∃ b o, ao = some ⟨b, o, none⟩ ∧ w.cell? ⟨b, o + i, none⟩ = some (.int .u8 (p.getD i 0 : Nat))) := h5
  clear h3 h4 h5
  go_enter Tryd.func49, Tryd.ntmps49
  go_wp2_with (at_make; refine wpList_make_full _ rfl _ _ 37 rfl w.heap.size 5 i (.int .u8 0) 1 Tryd.underlying37 hi hz0 hz1 _ _ _ _ p.length rfl rfl (by omega) (by omega) (by rw [hz2]; omega) (by simp only [maxLen]; omega) (Nat.le_refl _) ?_)
  intro w1 hown hgrow
  have HR0 : Hid (Row w1 w.heap.size (List.replicate p.length 0)) := row_made hown
  have HB1 : Hid (Below w.heap.size w w1) := (Below.refl _ _).grown hgrow (Nat.le_refl _) (by simp)
  clear hown hgrow
  have HSz : Hid ((Tryd.prog.info? 5).map (·.size) = some 1) := by show _ = _; rw [hi, Option.map_some, hz1]
  have HPos : Hid (0 < (bvs p).length → (some ⟨w.heap.size, 0, none⟩ : Option Addr) = some ⟨w.heap.size, 0, none⟩ ∧ ∃ ad, ao = some ad ∧ ∀ j v, (bvs p)[j]? = some v → w1.cell? (ad.add j) = some v) := by
    intro hp0
    rw [bvs_length] at hp0
    obtain ⟨b, o, e, _⟩ := H5.out 0 hp0
    refine ⟨rfl, ⟨b, o, none⟩, e, fun j v hj => ?_⟩
    have hjl : j < p.length := by simpa [bvs_length] using (List.getElem?_eq_some_iff.1 hj).1
    obtain ⟨b', o', e', hc⟩ := H5.out j hjl
    rw [e] at e'
    cases e'
    rw [bvs_get p j hjl] at hj
    rw [Addr.add_lit, HB1.out.cell (p := ⟨b, o + j, none⟩) (World.block_lt_of_cell? w _ hc), hc, hj]
  have HPl : Hid ((bvs p).length = p.length) := bvs_length p
  go_wp2_with (refine wpList_copy_splice rfl (.tmp 7) (.tmp 8) 37 37 rfl 5 Tryd.underlying37 HSz.out _ ao _ _ p.length cap rfl rfl w.heap.size 0 (bvs (List.replicate p.length 0)) 5 HR0.out (bvs p) (by rw [HPl.out]; exact (Nat.min_self _).symm) HPos.out (by rw [HPl.out, bvs_length, List.length_replicate]; omega) (bvs_one p) w.heap.size w HB1.out (Nat.le_refl _) ?_)
  intro w2 HG2 hB2
  have HR2 : Hid (Row w2 w.heap.size p) := by
    have h := HG2.out
    rw [splice_front, Nat.sub_self, List.replicate_zero, List.append_nil] at h
    exact h
  have HB2 : Hid (Below w.heap.size w w2) := hB2
  clear hB2 HG2 HPos HSz HPl HR0 HB1 H5
  go_wp2
  go_ret
  exact ⟨rfl, HR2.out, HB2.out⟩
set_option maxHeartbeats 400000 in
theorem newWriter_any (w : World) : Calls Tryd.prog 10 #[] w fun e w' => e = .returned (.pointer (some ⟨w.heap.size, 0, none⟩)) ∧ Wr w' w.heap.size (.slice none 0 0) [] 0 w.heap.size ∧ Below w.heap.size w w' := by
  go_enter Tryd.func10, Tryd.ntmps10
  go_wp2
  go_ret
  exact ⟨rfl, ⟨heap_alloc_new w _, own_nil _ _, by simp [Value.ownBlock], by simp⟩, (Below.refl _ _).alloc (Nat.le_refl _) _⟩
set_option maxHeartbeats 400000 in
theorem len_any {w : World} {p : Nat} {v : Value} {zs : List Nat} {why : Int} {base : Nat} (h : Wr w p v zs why base) :
    Calls Tryd.prog 55 #[.pointer (some ⟨p, 0, none⟩)] w fun e w' => e = .returned (.int .i64 zs.length) ∧ w' = w := by
  have c0 := h.cell0
  obtain ⟨ao, cap, rfl, h1, h2, _⟩ := h.2.1.sl h.2.2.2
  clear h
  go_enter Tryd.func55, Tryd.ntmps55
  go_wp2
  go_ret
  exact ⟨rfl, rfl⟩
set_option maxHeartbeats 400000 in
theorem all_any {w : World} {p : Nat} {v : Value} {zs : List Nat} {why : Int} {base : Nat} (h : Wr w p v zs why base) (hp : zs.length ≤ 1099511627776) :
    Calls Tryd.prog 27 #[.pointer (some ⟨p, 0, none⟩)] w fun e w' => e = .returned (.slice (some ⟨w.heap.size, 0, none⟩) zs.length zs.length) ∧ Row w' w.heap.size zs ∧ Below w.heap.size w w' := by
  have c0 := h.cell0
  have HC : Hid (Calls Tryd.prog 49 #[v] w fun e w' => e = .returned (.slice (some ⟨w.heap.size, 0, none⟩) zs.length zs.length) ∧ Row w' w.heap.size zs ∧ Below w.heap.size w w') := clone_any (h.2.1.sl h.2.2.2) hp
  obtain ⟨ao, cap, rfl, h1, h2, _⟩ := h.2.1.sl h.2.2.2
  clear h
  go_enter Tryd.func27, Tryd.ntmps27
  go_wp2_with fail
  refine HC.out.mono ?_
  rintro e w' ⟨rfl, hr, hb⟩
  have HR : Hid (Row w' w.heap.size zs ∧ Below w.heap.size w w') := ⟨hr, hb⟩
  clear hr hb
  go_wp2
  go_ret
  exact ⟨rfl, HR.out⟩
end Go.Proofs.YtinjhgimhboigaaDoor
