import Derived.Test.YtmfkggngjeolcaaGreatDoorPk12
import Derived.Deep.AppendSrc
import Derived.Laws.IdiomStrings
import Derived.Laws.BytesArg
/- Reader.Pad, Reader.Bytes. -/
namespace Go.Proofs.YtmfkggngjeolcaaGreatDoor
open Go.RowKit
end Go.Proofs.YtmfkggngjeolcaaGreatDoor
/- Reader.Seal, Reader.Bytes. -/
namespace Go.Proofs.YtmfkggngjeolcaaGreatDoor
open Go.RowKit
end Go.Proofs.YtmfkggngjeolcaaGreatDoor
/- Strings: their bytes; append(dst, s...); Writer.Text. -/
namespace Go.Proofs.YtmfkggngjeolcaaGreatDoor
open Go.RowKit
/-- a string's bytes -/
def sb (s : ByteArray) : List Nat := s.data.toList.map UInt8.toNat
/-- the string of some bytes -/
def mkS (zs : List Nat) : ByteArray := ⟨(zs.map UInt8.ofNat).toArray⟩
theorem sb_length (s : ByteArray) : (sb s).length = s.size := by
  unfold sb
  rw [List.length_map, Array.length_toList]
  rfl
theorem sb_small (s : ByteArray) : ∀ z ∈ sb s, z < 256 := by
  intro z hz
  obtain ⟨b, _, rfl⟩ := List.mem_map.1 hz
  exact b.toNat_lt
theorem byteCells_eq (s : ByteArray) : byteCells s = bvs (sb s) := by simp [byteCells, bvs, sb]
theorem mkS_size (zs : List Nat) : (mkS zs).size = zs.length := by
  show (zs.map UInt8.ofNat).toArray.size = _
  simp
theorem run_append_str {w : World} {base g n cap : Nat} {xs : List Nat} (ty : TypeId) (s : ByteArray) (hown : Own w base (.slice (some ⟨g, 0, none⟩) n cap) xs) (hb : xs.length + s.size ≤ 1099511627776) (hbase : base ≤ w.heap.size) :
    ∃ v' w', (Builtin.append_ #[43, 9] ty #[.slice (some ⟨g, 0, none⟩) n cap, .string s]).run Tryz.prog w = .ok v' w' ∧ Own w' base v' (xs ++ sb s) ∧ w.grownBy w' (some g) ∧ (v'.ownBlock = some g ∨ v'.ownBlock = some w.heap.size) := by
  obtain ⟨i, hi, hz0, hz1, hz2⟩ := info_parts info_byte
  obtain rfl := hown.len
  have hlen : (bvs (xs ++ sb s)).length = (xs ++ sb s).length * 1 := by rw [bvs_length]; omega
  have hsl := sb_length s
  have hsrc : Src Tryz.prog i.size 9 (.string s) s.size (bvs (sb s)) w := by
    rw [hz1, ← byteCells_eq]
    exact Src.ofString w Tryz.underlying9 s
  rcases hown.2 with ⟨hv, _⟩ | ⟨g', cap', cur, hv, hbg, hg, hnc, hcm, hcs, ht⟩
  · cases hv
  · cases hv
    by_cases hroom : xs.length + s.size ≤ cap
    · have hu := run_underlying (w := w) Tryz.underlying43
      have hst := run_storeCells_at Tryz.prog g (xs.length * 1) 5 (bvs (sb s)) 0 cur w hg (by rw [bvs_length, hsl]; omega) (bvs_one _)
      rw [Nat.add_zero, Nat.mul_one, bvs_length, hsl] at hst
      refine ⟨.slice (some ⟨g, 0, none⟩) (xs.length + s.size) cap, w.setRow g (cur.toList.take xs.length ++ bvs (sb s) ++ cur.toList.drop (xs.length + s.size)).toArray, ?_, ?_, ?_, .inl rfl⟩
      · have hcl := hsrc.cells
        rw [hz1] at hcl
        simp [Builtin.append_, hu, sizeOf, typeInfo, hi, hz1, Builtin.lenOf, hroom, hcl, Addr.add_lit, hst]
      · refine ⟨hlen, .inr ⟨g, cap, _, by rw [List.length_append, hsl], hbg, setRow_heap w g cur _ _ _ hg, by rw [List.length_append, hsl]; exact hroom, hcm, ?_, ?_⟩⟩
        · simp [bvs_length, hsl]; omega
        · rw [Nat.mul_one] at ht
          rw [ht, bvs_append, List.length_append, Nat.mul_one]
          exact List.take_left' (by rw [List.length_append, bvs_length, bvs_length])
      · exact ⟨rfl, rfl, rfl, by simp, fun k _ hk => setRow_other w g k _ (fun e => hk (by rw [e]))⟩
    · have hfo := run_firstCells_some (P := Tryz.prog) w.drew i.size xs.length ⟨g, 0, none⟩ xs.length cap (bvs xs) (by rw [bvs_length, hz1]; omega) (hown.cells (g := g) rfl)
      have hr := run_append_grow_src (P := Tryz.prog) w 43 9 ty 5 i (.int .u8 0) Tryz.underlying43 hi hz0 (some ⟨g, 0, none⟩) xs.length cap (bvs xs) hfo (.string s) s.size (bvs (sb s)) hsrc (by omega) (by omega) (by rw [hz2]; exact growslice_fits (by omega) (by omega))
      have hge := grownCap_ge w (xs.length + s.size) cap 5
      have hle := grownCap_le_maxLen w (xs.length + s.size) cap 5 (by unfold maxLen; omega)
      refine ⟨_, _, hr, ⟨hlen, .inr ⟨w.heap.size, _, _, by rw [List.length_append, hsl], hbase, heap_alloc_new w.drew _, by rw [List.length_append, hsl]; exact hge, hle, ?_, ?_⟩⟩, ⟨rfl, rfl, rfl, by simp, fun k hk _ => Below.heap_alloc w.drew _ k hk⟩, .inr rfl⟩
      · simp [size_zeroCells, Value.cells, bvs_length, hsl]; omega
      · rw [Array.toList_append, bvs_append, List.length_append, Nat.mul_one]
        exact List.take_left' (by simp [bvs_length])
end Go.Proofs.YtmfkggngjeolcaaGreatDoor
