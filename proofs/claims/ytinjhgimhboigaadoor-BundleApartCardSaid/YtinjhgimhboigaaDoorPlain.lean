/- Plain mathematics of the check sum and of numbers as bytes: no program, no world. -/
import Derived.WalkKit
import Derived.Laws.BitsAllLaws
namespace Go.Proofs.YtinjhgimhboigaaDoor
namespace Pl

/-- the table of four bits -/
def tab : List Nat := [0, 274646895, 549293790, 820201905, 1098587580, 1361435347, 1640403810, 1905808397, 2197175160, 2460548119, 2722870694, 2987750089, 3280807620, 3553878443, 3811616794, 4084100981]
def nib (r : Nat) : Nat := (r / 16) ^^^ (tab.getD (r % 16) 0)
def stepB (r z : Nat) : Nat := nib (nib (r ^^^ z))
def more (s : Nat) (zs : List Nat) : Nat := 4294967295 ^^^ zs.foldl stepB (4294967295 ^^^ s)
def crc (zs : List Nat) : Nat := more 0 zs

theorem xor_lt {a b : Nat} (ha : a < 4294967296) (hb : b < 4294967296) : a ^^^ b < 4294967296 := Nat.xor_lt_two_pow (n := 32) ha hb
theorem tab_lt (t : Nat) : tab.getD t 0 < 4294967296 := by
  by_cases h : t < 16
  · have : ∀ t : Fin 16, tab.getD t.val 0 < 4294967296 := by decide
    exact this ⟨t, h⟩
  · rw [List.getD_eq_getElem?_getD, List.getElem?_eq_none (by simp [tab]; omega)]; decide
theorem nib_lt {r : Nat} (h : r < 4294967296) : nib r < 4294967296 := xor_lt (by omega) (tab_lt _)
theorem stepB_lt {r z : Nat} (h : r < 4294967296) (hz : z < 256) : stepB r z < 4294967296 := nib_lt (nib_lt (xor_lt h (by omega)))
theorem fold_lt : ∀ (zs : List Nat) (r : Nat), r < 4294967296 → (∀ z ∈ zs, z < 256) → zs.foldl stepB r < 4294967296
  | [], _, h, _ => h
  | z :: zs, r, h, hz => fold_lt zs _ (stepB_lt h (hz z (by simp))) (fun y hy => hz y (by simp [hy]))
theorem more_lt {s : Nat} {zs : List Nat} (hs : s < 4294967296) (hz : ∀ z ∈ zs, z < 256) : more s zs < 4294967296 :=
  xor_lt (by decide) (fold_lt zs _ (xor_lt (by decide) hs) hz)
theorem fold_snoc (zs : List Nat) (k : Nat) (r : Nat) (h : k < zs.length) : (zs.take (k + 1)).foldl stepB r = stepB ((zs.take k).foldl stepB r) (zs.getD k 0) := by
  rw [List.take_succ_eq_append_getElem h, List.foldl_append, List.getD_eq_getElem?_getD, List.getElem?_eq_getElem h]; rfl
theorem mem_getD {zs : List Nat} {k : Nat} (hz : ∀ z ∈ zs, z < 256) : zs.getD k 0 < 256 := by
  by_cases h : k < zs.length
  · rw [List.getD_eq_getElem?_getD, List.getElem?_eq_getElem h]; exact hz _ (List.getElem_mem h)
  · rw [List.getD_eq_getElem?_getD, List.getElem?_eq_none (by omega)]; decide
end Pl
end Go.Proofs.YtinjhgimhboigaaDoor
