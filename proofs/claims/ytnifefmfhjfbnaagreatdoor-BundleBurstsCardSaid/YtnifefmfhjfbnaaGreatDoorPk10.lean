import Derived.Test.YtnifefmfhjfbnaaGreatDoorPk09
import Derived.Deep.AppendSrc
import Derived.Laws.IdiomStrings
import Derived.Laws.BytesArg
/- Reader.Seal, Reader.Bytes. -/
namespace Go.Proofs.YtnifefmfhjfbnaaGreatDoor
open Go.RowKit
theorem Row.mid {w : World} {g : Nat} {zs : List Nat} (h : Row w g zs) (hz : ∀ z ∈ zs, z < 256) (fr pos : Nat) (h1 : fr ≤ pos) (h2 : pos ≤ zs.length) (h3 : zs.length ≤ 1099511627776) : Sl w (.slice (some ⟨g, fr, none⟩) (pos - fr) (zs.length - fr)) ((zs.drop fr).take (pos - fr)) :=
 h.sl hz fr (pos - fr) (zs.length - fr) (by omega) (by omega) (by unfold maxLen; omega)
set_option maxHeartbeats 1000000 in
theorem rbytes_yes {w : World} {p g : Nat} {zs : List Nat} {pos n : Nat} (h : Rd w p g zs pos 0) (hl : pos + n ≤ zs.length) :
  Calls Tryz.prog 80 #[.pointer (some ⟨p, 0, none⟩), .int .i64 (n : Int)] w fun e w' => ∃ k, e = .returned (.slice (some ⟨k, 0, none⟩) n n) ∧ w.heap.size ≤ k ∧ Row w' k ((zs.drop pos).take n) ∧ k ≠ p ∧ Rd w' p g zs (pos + n) 0 ∧ Keeps (fun k => k = p) w w' := by
 have c2 := h.cell2
 have HR : Hid (Rd w p g zs pos 0) := h
 have h6 := h.2.2.2.2.2
 clear h
 go_enter Tryz.func80, Tryz.ntmps80
 go_wp2_with fail
 refine (rleft_any HR.out).mono ?_
 rintro e w1 ⟨rfl, hs⟩
 have HS1 : Hid (Stay w w1) := hs
 have HR1 : Hid (Rd w1 p g zs pos 0) := Stay.rd hs HR.out
 clear hs c2
 go_wp2_with fail
 refine (rest_any HR1.out).mono ?_
 rintro e w2 ⟨ao, c, rfl, hs, hc, ha, hst⟩
 have HS2 : Hid (Stay w w2) := HS1.out.trans hst
 have HR2 : Hid (Rd w2 p g zs pos 0) := Stay.rd hst HR1.out
 have HSl : Hid (Sl w2 (.slice ao n c) ((zs.drop pos).take n)) := hs.head n (by rw [List.length_drop]; omega)
 have HLen : Hid (((zs.drop pos).take n).length = n) := by show _ = _; rw [List.length_take, List.length_drop]; omega
 obtain rfl := hc
 clear hs ha hst HR1 HS1
 have HC : Hid (Calls Tryz.prog 72 #[.slice ao n (zs.length - pos)] w2 fun e w' => e = .returned (.slice (some ⟨w2.heap.size, 0, none⟩) n n) ∧ Row w' w2.heap.size ((zs.drop pos).take n) ∧ Below w2.heap.size w2 w') := by
  have := clone_any HSl.out (by rw [HLen.out]; omega)
  rw [HLen.out] at this
  exact this
 go_wp2_with fail
 refine HC.out.mono ?_
 rintro e w3 ⟨rfl, hr, hb⟩
 have HRow : Hid (Row w3 w2.heap.size ((zs.drop pos).take n)) := hr
 have HR3 : Hid (Rd w3 p g zs pos 0) := HR2.out.keeps (Keeps.of_below (S := fun _ => False) hb) (fun h => h) (fun h => h)
 have HK3 : Hid (Keeps (fun k => k = p) w w3) := (HS2.out.keeps).trans (Keeps.of_below (S := fun _ => False) hb) (fun _ _ h => h.elim)
 have HLt : Hid (w.heap.size ≤ w2.heap.size) := HS2.out.2.size
 have HNe : Hid (w2.heap.size ≠ p) := Nat.ne_of_gt HR2.out.lt
 clear hr hb HC
 have c1 := HR3.out.cell1
 have t1 := HR3.out.thawed 1
 go_wp2
 go_ret
 refine ⟨_, rfl, HLt.out, HRow.out.other p 1 _ HNe.out, HNe.out, ?_, HK3.out.trans (Keeps.setCell w3 p 1 _) (fun i _ e => e)⟩
 have := HR3.out.moved (pos + n) hl
 rw [Int.natCast_add] at this
 exact this
end Go.Proofs.YtnifefmfhjfbnaaGreatDoor
/- Strings: their bytes; append(dst, s...); Writer.Text. -/
namespace Go.Proofs.YtnifefmfhjfbnaaGreatDoor
open Go.RowKit
/-- a string's bytes -/
def sb (s : ByteArray) : List Nat := s.data.toList.map UInt8.toNat
/-- the string of some bytes -/
def mkS (zs : List Nat) : ByteArray := ⟨(zs.map UInt8.ofNat).toArray⟩
theorem mkS_size (zs : List Nat) : (mkS zs).size = zs.length := by
 show (zs.map UInt8.ofNat).toArray.size = _
 simp
end Go.Proofs.YtnifefmfhjfbnaaGreatDoor
