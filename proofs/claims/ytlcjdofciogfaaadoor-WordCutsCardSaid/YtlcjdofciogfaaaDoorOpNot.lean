/- laid of a Writer that has refused: nothing is laid. -/
import Derived.Test.YtlcjdofciogfaaaDoorOpLay
namespace Go.Proofs.YtlcjdofciogfaaaDoor
open Go.RowKit
theorem not_close {why : Int} (h : why ≠ 0) : (why == 0) = false := by simpa using h
set_option maxRecDepth 100000 in
set_option maxHeartbeats 2000000 in
theorem laidnot_byte {w : World} {p base : Nat} {v : Value} {zs : List Nat} {pos num : Int} {n : Nat} {pa : Option Addr} {pl pc : Nat} {s : ByteArray} {why : Int} (h : Wr w p v zs why base) (hy : why ≠ 0) :
    Calls Tryd.prog 16 #[.pointer (some ⟨p, 0, none⟩), .agg #[.int .i64 1, .int .i64 pos, .int .u64 (n : Int), .int .i64 num, .slice pa pl pc, .string s]] w (fun e w' => e = .returned (.bool false) ∧ ∃ X, w' = w.alloc X) := by
  have HW : Hid (Wr (w.alloc (.cells #[.int .i64 1, .int .i64 pos, .int .u64 (n : Int), .int .i64 num, (.slice pa pl pc), .string s] 36)) p v zs why base) := h.alloc _
  have hz := not_close hy
  clear h
  go_enter Tryd.func16, Tryd.ntmps16
  go_wp2_with fail
  refine (put_u8_not HW.out hy).mono ?_
  rintro e w' ⟨rfl, hw⟩
  rw [hw]
  clear hw w'
  go_wp2_with fail
  refine (err_any HW.out).mono ?_
  rintro e w' ⟨rfl, hw⟩
  rw [hw]
  clear hw w'
  go_wp2
  go_ret
  exact ⟨rfl, _, rfl⟩
set_option maxRecDepth 100000 in
set_option maxHeartbeats 2000000 in
theorem laidnot_half {w : World} {p base : Nat} {v : Value} {zs : List Nat} {pos num : Int} {n : Nat} {pa : Option Addr} {pl pc : Nat} {s : ByteArray} {why : Int} (h : Wr w p v zs why base) (hy : why ≠ 0) :
    Calls Tryd.prog 16 #[.pointer (some ⟨p, 0, none⟩), .agg #[.int .i64 2, .int .i64 pos, .int .u64 (n : Int), .int .i64 num, .slice pa pl pc, .string s]] w (fun e w' => e = .returned (.bool false) ∧ ∃ X, w' = w.alloc X) := by
  have HW : Hid (Wr (w.alloc (.cells #[.int .i64 2, .int .i64 pos, .int .u64 (n : Int), .int .i64 num, (.slice pa pl pc), .string s] 36)) p v zs why base) := h.alloc _
  have hz := not_close hy
  clear h
  go_enter Tryd.func16, Tryd.ntmps16
  go_wp2_with fail
  refine (put_u16_not HW.out hy).mono ?_
  rintro e w' ⟨rfl, hw⟩
  rw [hw]
  clear hw w'
  go_wp2_with fail
  refine (err_any HW.out).mono ?_
  rintro e w' ⟨rfl, hw⟩
  rw [hw]
  clear hw w'
  go_wp2
  go_ret
  exact ⟨rfl, _, rfl⟩
set_option maxRecDepth 100000 in
set_option maxHeartbeats 2000000 in
theorem laidnot_word {w : World} {p base : Nat} {v : Value} {zs : List Nat} {pos num : Int} {n : Nat} {pa : Option Addr} {pl pc : Nat} {s : ByteArray} {why : Int} (h : Wr w p v zs why base) (hy : why ≠ 0) :
    Calls Tryd.prog 16 #[.pointer (some ⟨p, 0, none⟩), .agg #[.int .i64 3, .int .i64 pos, .int .u64 (n : Int), .int .i64 num, .slice pa pl pc, .string s]] w (fun e w' => e = .returned (.bool false) ∧ ∃ X, w' = w.alloc X) := by
  have HW : Hid (Wr (w.alloc (.cells #[.int .i64 3, .int .i64 pos, .int .u64 (n : Int), .int .i64 num, (.slice pa pl pc), .string s] 36)) p v zs why base) := h.alloc _
  have hz := not_close hy
  clear h
  go_enter Tryd.func16, Tryd.ntmps16
  go_wp2_with fail
  refine (put_u32_not HW.out hy).mono ?_
  rintro e w' ⟨rfl, hw⟩
  rw [hw]
  clear hw w'
  go_wp2_with fail
  refine (err_any HW.out).mono ?_
  rintro e w' ⟨rfl, hw⟩
  rw [hw]
  clear hw w'
  go_wp2
  go_ret
  exact ⟨rfl, _, rfl⟩
set_option maxRecDepth 100000 in
set_option maxHeartbeats 2000000 in
theorem laidnot_long {w : World} {p base : Nat} {v : Value} {zs : List Nat} {pos num : Int} {n : Nat} {pa : Option Addr} {pl pc : Nat} {s : ByteArray} {why : Int} (h : Wr w p v zs why base) (hy : why ≠ 0) :
    Calls Tryd.prog 16 #[.pointer (some ⟨p, 0, none⟩), .agg #[.int .i64 4, .int .i64 pos, .int .u64 (n : Int), .int .i64 num, .slice pa pl pc, .string s]] w (fun e w' => e = .returned (.bool false) ∧ ∃ X, w' = w.alloc X) := by
  have HW : Hid (Wr (w.alloc (.cells #[.int .i64 4, .int .i64 pos, .int .u64 (n : Int), .int .i64 num, (.slice pa pl pc), .string s] 36)) p v zs why base) := h.alloc _
  have hz := not_close hy
  clear h
  go_enter Tryd.func16, Tryd.ntmps16
  go_wp2_with fail
  refine (put_u64_not HW.out hy).mono ?_
  rintro e w' ⟨rfl, hw⟩
  rw [hw]
  clear hw w'
  go_wp2_with fail
  refine (err_any HW.out).mono ?_
  rintro e w' ⟨rfl, hw⟩
  rw [hw]
  clear hw w'
  go_wp2
  go_ret
  exact ⟨rfl, _, rfl⟩
set_option maxRecDepth 100000 in
set_option maxHeartbeats 2000000 in
theorem laidnot_bytes {w : World} {p base : Nat} {v : Value} {zs : List Nat} {pos num : Int} {n : Nat} {pa : Option Addr} {pl pc : Nat} {s : ByteArray} {why : Int} (h : Wr w p v zs why base) (hy : why ≠ 0) :
    Calls Tryd.prog 16 #[.pointer (some ⟨p, 0, none⟩), .agg #[.int .i64 5, .int .i64 pos, .int .u64 (n : Int), .int .i64 num, .slice pa pl pc, .string s]] w (fun e w' => e = .returned (.bool false) ∧ ∃ X, w' = w.alloc X) := by
  have HW : Hid (Wr (w.alloc (.cells #[.int .i64 5, .int .i64 pos, .int .u64 (n : Int), .int .i64 num, (.slice pa pl pc), .string s] 36)) p v zs why base) := h.alloc _
  have hz := not_close hy
  clear h
  go_enter Tryd.func16, Tryd.ntmps16
  go_wp2_with fail
  refine (wbytes_not HW.out hy).mono ?_
  rintro e w' ⟨rfl, hw⟩
  rw [hw]
  clear hw w'
  go_wp2_with fail
  refine (err_any HW.out).mono ?_
  rintro e w' ⟨rfl, hw⟩
  rw [hw]
  clear hw w'
  go_wp2
  go_ret
  exact ⟨rfl, _, rfl⟩
set_option maxRecDepth 100000 in
set_option maxHeartbeats 2000000 in
theorem laidnot_text {w : World} {p base : Nat} {v : Value} {zs : List Nat} {pos num : Int} {n : Nat} {pa : Option Addr} {pl pc : Nat} {s : ByteArray} {why : Int} (h : Wr w p v zs why base) (hy : why ≠ 0) :
    Calls Tryd.prog 16 #[.pointer (some ⟨p, 0, none⟩), .agg #[.int .i64 6, .int .i64 pos, .int .u64 (n : Int), .int .i64 num, .slice pa pl pc, .string s]] w (fun e w' => e = .returned (.bool false) ∧ ∃ X, w' = w.alloc X) := by
  have HW : Hid (Wr (w.alloc (.cells #[.int .i64 6, .int .i64 pos, .int .u64 (n : Int), .int .i64 num, (.slice pa pl pc), .string s] 36)) p v zs why base) := h.alloc _
  have hz := not_close hy
  clear h
  go_enter Tryd.func16, Tryd.ntmps16
  go_wp2_with fail
  refine (wtext_not HW.out hy).mono ?_
  rintro e w' ⟨rfl, hw⟩
  rw [hw]
  clear hw w'
  go_wp2_with fail
  refine (err_any HW.out).mono ?_
  rintro e w' ⟨rfl, hw⟩
  rw [hw]
  clear hw w'
  go_wp2
  go_ret
  exact ⟨rfl, _, rfl⟩
set_option maxRecDepth 100000 in
set_option maxHeartbeats 2000000 in
theorem laidnot_pad {w : World} {p base : Nat} {v : Value} {zs : List Nat} {pos num : Int} {n : Nat} {pa : Option Addr} {pl pc : Nat} {s : ByteArray} {why : Int} (h : Wr w p v zs why base) (hy : why ≠ 0) :
    Calls Tryd.prog 16 #[.pointer (some ⟨p, 0, none⟩), .agg #[.int .i64 7, .int .i64 pos, .int .u64 (n : Int), .int .i64 num, .slice pa pl pc, .string s]] w (fun e w' => e = .returned (.bool false) ∧ ∃ X, w' = w.alloc X) := by
  have HW : Hid (Wr (w.alloc (.cells #[.int .i64 7, .int .i64 pos, .int .u64 (n : Int), .int .i64 num, (.slice pa pl pc), .string s] 36)) p v zs why base) := h.alloc _
  have hz := not_close hy
  clear h
  go_enter Tryd.func16, Tryd.ntmps16
  go_wp2_with fail
  refine (wpad_not HW.out hy).mono ?_
  rintro e w' ⟨rfl, hw⟩
  rw [hw]
  clear hw w'
  go_wp2_with fail
  refine (err_any HW.out).mono ?_
  rintro e w' ⟨rfl, hw⟩
  rw [hw]
  clear hw w'
  go_wp2
  go_ret
  exact ⟨rfl, _, rfl⟩
set_option maxRecDepth 100000 in
set_option maxHeartbeats 2000000 in
theorem laidnot_seal {w : World} {p base : Nat} {v : Value} {zs : List Nat} {pos num : Int} {n : Nat} {pa : Option Addr} {pl pc : Nat} {s : ByteArray} {why : Int} (h : Wr w p v zs why base) (hy : why ≠ 0) :
    Calls Tryd.prog 16 #[.pointer (some ⟨p, 0, none⟩), .agg #[.int .i64 8, .int .i64 pos, .int .u64 (n : Int), .int .i64 num, .slice pa pl pc, .string s]] w (fun e w' => e = .returned (.bool false) ∧ ∃ X, w' = w.alloc X) := by
  have HW : Hid (Wr (w.alloc (.cells #[.int .i64 8, .int .i64 pos, .int .u64 (n : Int), .int .i64 num, (.slice pa pl pc), .string s] 36)) p v zs why base) := h.alloc _
  have hz := not_close hy
  clear h
  go_enter Tryd.func16, Tryd.ntmps16
  go_wp2_with fail
  refine (wseal_not HW.out hy).mono ?_
  rintro e w' ⟨rfl, hw⟩
  rw [hw]
  clear hw w'
  go_wp2_with fail
  refine (err_any HW.out).mono ?_
  rintro e w' ⟨rfl, hw⟩
  rw [hw]
  clear hw w'
  go_wp2
  go_ret
  exact ⟨rfl, _, rfl⟩
set_option maxRecDepth 100000 in
set_option maxHeartbeats 2000000 in
theorem laidnot_other {w : World} {p base : Nat} {v : Value} {zs : List Nat} {kind pos num : Int} {n : Nat} {pa : Option Addr} {pl pc : Nat} {s : ByteArray} {why : Int} (h : Wr w p v zs why base) (hy : why ≠ 0) (k1 : kind ≠ 1) (k2 : kind ≠ 2) (k3 : kind ≠ 3) (k4 : kind ≠ 4) (k5 : kind ≠ 5) (k6 : kind ≠ 6) (k7 : kind ≠ 7) (k8 : kind ≠ 8) :
    Calls Tryd.prog 16 #[.pointer (some ⟨p, 0, none⟩), .agg #[.int .i64 kind, .int .i64 pos, .int .u64 (n : Int), .int .i64 num, .slice pa pl pc, .string s]] w (fun e w' => e = .returned (.bool false) ∧ ∃ X, w' = w.alloc X) := by
  have HW : Hid (Wr (w.alloc (.cells #[.int .i64 kind, .int .i64 pos, .int .u64 (n : Int), .int .i64 num, (.slice pa pl pc), .string s] 36)) p v zs why base) := h.alloc _
  have hz := not_close hy
  clear h
  go_enter Tryd.func16, Tryd.ntmps16
  go_wp2_with fail
  refine (err_any HW.out).mono ?_
  rintro e w' ⟨rfl, hw⟩
  rw [hw]
  clear hw w'
  go_wp2
  go_ret
  exact ⟨rfl, _, rfl⟩
theorem laid_not {w : World} {p base : Nat} {v : Value} {zs : List Nat} {o : OpV} {why : Int} (h : Wr w p v zs why base) (hy : why ≠ 0) (ho : Sl w o.pv o.ps) :
    Calls Tryd.prog 16 #[.pointer (some ⟨p, 0, none⟩), .agg o.vals] w (fun e w' => e = .returned (.bool false) ∧ ∃ X, w' = w.alloc X) := by
  obtain ⟨kind, pos, n, num, pv, ps, s⟩ := o
  obtain ⟨a, c, e, _⟩ := ho
  have e' : pv = .slice a ps.length c := e
  clear e
  subst e'
  by_cases k1 : kind = 1
  · subst k1; exact laidnot_byte h hy
  by_cases k2 : kind = 2
  · subst k2; exact laidnot_half h hy
  by_cases k3 : kind = 3
  · subst k3; exact laidnot_word h hy
  by_cases k4 : kind = 4
  · subst k4; exact laidnot_long h hy
  by_cases k5 : kind = 5
  · subst k5; exact laidnot_bytes h hy
  by_cases k6 : kind = 6
  · subst k6; exact laidnot_text h hy
  by_cases k7 : kind = 7
  · subst k7; exact laidnot_pad h hy
  by_cases k8 : kind = 8
  · subst k8; exact laidnot_seal h hy
  exact laidnot_other h hy k1 k2 k3 k4 k5 k6 k7 k8
end Go.Proofs.YtlcjdofciogfaaaDoor
