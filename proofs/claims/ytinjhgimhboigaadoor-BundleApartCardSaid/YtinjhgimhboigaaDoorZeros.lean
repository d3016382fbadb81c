/- append(dst, make([]byte, n)...): n zeros onto a row of bytes that the call owns. -/
import Derived.Test.YtinjhgimhboigaaDoorNum
namespace Go.Proofs.YtinjhgimhboigaaDoor
open Go.RowKit
theorem zeros_cells (n : Nat) : (Builtin.zeroCells (Value.int .u8 0).cells n).toList = bvs (List.replicate n 0) := by
  have h := toList_madeCells_one (Value.int .u8 0) n
  rw [show Builtin.zeroCells (Value.int .u8 0).cells n = madeCells #[Value.int .u8 0] n from by simp [Builtin.zeroCells, madeCells, Value.cells]]
  rw [h]
  simp [bvs]
theorem run_append_zeros {w : World} {base : Nat} {v : Value} {xs : List Nat} {n : Nat} (ty : TypeId) (hown : Own w base v xs) (hb : xs.length + n ≤ 1099511627776) (hbase : base ≤ w.heap.size) :
    ∃ v' w', (Builtin.append_ #[37, 3] ty #[v, .int .i64 (n : Int)]).run Tryd.prog w = .ok v' w' ∧ Own w' base v' (xs ++ List.replicate n 0) ∧ w.grownBy w' v.ownBlock ∧ (v'.ownBlock = v.ownBlock ∨ v'.ownBlock = some w.heap.size) := by
  obtain ⟨i, hi, hz0, hz1, hz2⟩ := info_parts info_byte
  have hu := run_underlying (w := w) Tryd.underlying37
  have hwr : IntKind.i64.wrap (n : Int) = n := by rw [IntKind.wrap_i64]; omega
  have hneg : ¬ ((n : Int) < 0) := by omega
  have hcap : ¬ (281474976710656 < (n : Int)) := by omega
  have hlen : (bvs (xs ++ List.replicate n 0)).length = (xs ++ List.replicate n 0).length * 1 := by rw [bvs_length]; omega
  rcases hown.2 with ⟨rfl, h0⟩ | ⟨g, cap, cur, rfl, hbg, hg, hnc, hcm, hcs, ht⟩
  · obtain rfl : xs = [] := List.eq_nil_of_length_eq_zero h0
    by_cases hn : n = 0
    · refine ⟨.slice none 0 0, w, ?_, by rw [hn]; exact own_nil w base, World.grownBy.refl _ _, .inl rfl⟩
      simp [Builtin.append_, hu, sizeOf, typeInfo, hi, hz1, hz2, asInt, asIntOf, hwr, hneg, hcap]
      rw [if_pos hn, hn]
    · have h63 : ¬ (9223372036854775807 < (n : Int)) := by omega
      have h48 : ¬ (281474976710656 < Builtin.nextslicecap n 0) := by rw [nextslicecap_zero (by omega)]; omega
      refine ⟨.slice (some ⟨w.heap.size, 0, none⟩) n (grownCap w n 0 5), w.drew.alloc (.cells (Builtin.zeroCells (Value.int .u8 0).cells n ++ Builtin.zeroCells (Value.int .u8 0).cells (grownCap w n 0 5 - n)) 5), ?_, ?_, ?_, .inr rfl⟩
      · simp [Builtin.append_, hu, sizeOf, typeInfo, zeroValue, hi, hz0, hz1, hz2, asInt, asIntOf, hwr, hneg, hcap, hn, h63, h48, Question.forced, run_firstCells_none, newRow, grownCap]
      · have hge := grownCap_ge w n 0 5
        have hle := grownCap_le_maxLen w n 0 5 (by unfold maxLen; omega)
        refine ⟨hlen, .inr ⟨w.heap.size, _, _, by simp, hbase, heap_alloc_new w.drew _, by simpa using hge, hle, ?_, ?_⟩⟩
        · simp [size_zeroCells, Value.cells]; omega
        · rw [Array.toList_append, zeros_cells, List.nil_append, List.length_replicate, Nat.mul_one, List.take_left' (by rw [bvs_length, List.length_replicate])]
      · exact ⟨rfl, rfl, rfl, by simp, fun k hk _ => Below.heap_alloc w.drew _ k hk⟩
  · by_cases hn : n = 0
    · refine ⟨_, w, ?_, by rw [hn, List.replicate_zero, List.append_nil]; exact hown, World.grownBy.refl _ _, .inl rfl⟩
      have hroom : xs.length + n ≤ cap := by omega
      simp [Builtin.append_, hu, sizeOf, typeInfo, zeroValue, hi, hz0, hz1, hz2, asInt, asIntOf, hwr, hneg, hcap, hroom]
      rw [if_pos hn]
      simp [storeCells, hn]
    by_cases hroom : xs.length + n ≤ cap
    · have hst := run_storeCells_at Tryd.prog g (xs.length * 1) 5 (bvs (List.replicate n 0)) 0 cur w hg (by rw [bvs_length, List.length_replicate]; omega) (bvs_one _)
      refine ⟨.slice (some ⟨g, 0, none⟩) (xs.length + n) cap, w.setRow g (cur.toList.take xs.length ++ bvs (List.replicate n 0) ++ cur.toList.drop (xs.length + n)).toArray, ?_, ?_, ?_, .inl rfl⟩
      · rw [Nat.add_zero, Nat.mul_one, bvs_length, List.length_replicate] at hst
        simp [Builtin.append_, hu, sizeOf, typeInfo, zeroValue, hi, hz0, hz1, hz2, asInt, asIntOf, hwr, hneg, hcap, hroom, hn, Addr.add_lit, zeros_cells, hst]
      · refine ⟨hlen, .inr ⟨g, cap, _, by simp, hbg, setRow_heap w g cur _ _ _ hg, by simpa using hroom, hcm, ?_, ?_⟩⟩
        · simp [bvs_length]; omega
        · rw [Nat.mul_one] at ht
          rw [ht, bvs_append, List.length_append, List.length_replicate, Nat.mul_one]
          exact List.take_left' (by rw [List.length_append, bvs_length, bvs_length, List.length_replicate])
      · exact ⟨rfl, rfl, rfl, by simp, fun k _ hk => setRow_other w g k _ (fun e => hk (by simp [Value.ownBlock, e]))⟩
    · have h63 : ¬ (9223372036854775807 < ((xs.length : Int) + (n : Int))) := by omega
      have h48 : ¬ (281474976710656 < Builtin.nextslicecap (xs.length + n) cap) := by
        have := growslice_fits (bytes := 1) (show cap < xs.length + n by omega) (by omega)
        omega
      have hfo := run_firstCells_some (P := Tryd.prog) w.drew 1 xs.length ⟨g, 0, none⟩ xs.length cap (bvs xs) (by rw [bvs_length]; omega) (hown.cells (g := g) rfl)
      refine ⟨.slice (some ⟨w.heap.size, 0, none⟩) (xs.length + n) (grownCap w (xs.length + n) cap 5), w.drew.alloc (.cells ((bvs xs).toArray ++ Builtin.zeroCells (Value.int .u8 0).cells n ++ Builtin.zeroCells (Value.int .u8 0).cells (grownCap w (xs.length + n) cap 5 - (xs.length + n))) 5), ?_, ?_, ?_, .inr rfl⟩
      · simp [Builtin.append_, hu, sizeOf, typeInfo, zeroValue, hi, hz0, hz1, hz2, asInt, asIntOf, hwr, hneg, hcap, hn, hroom, h63, h48, Question.forced, hfo, newRow, grownCap]
      · have hge := grownCap_ge w (xs.length + n) cap 5
        have hle := grownCap_le_maxLen w (xs.length + n) cap 5 (by unfold maxLen; omega)
        refine ⟨hlen, .inr ⟨w.heap.size, _, _, by simp, hbase, heap_alloc_new w.drew _, by simpa using hge, hle, ?_, ?_⟩⟩
        · simp [size_zeroCells, Value.cells, bvs_length]; omega
        · rw [Array.toList_append, Array.toList_append, zeros_cells, bvs_append, List.length_append, List.length_replicate, Nat.mul_one]
          exact List.take_left' (by simp [bvs_length])
      · exact ⟨rfl, rfl, rfl, by simp, fun k hk _ => Below.heap_alloc w.drew _ k hk⟩
end Go.Proofs.YtinjhgimhboigaaDoor
