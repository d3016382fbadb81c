/- alike, where two steps bear the same. -/
import Derived.Test.YtlcjdofciogfaaaDoorCalls2
import Derived.Deep.RegionHeld
namespace Go.Proofs.YtlcjdofciogfaaaDoor
open Go.RowKit
/-- two steps bear the same thing -/
def AlikeH (a b : OpV) : Prop :=
  if a.kind = 1 then a.n % 256 = b.n else if a.kind = 2 then a.n % 65536 = b.n else if a.kind = 3 then a.n % 4294967296 = b.n else if a.kind = 4 then a.n = b.n
  else if a.kind = 5 then a.ps = b.ps else if a.kind = 6 then a.s = b.s else True
set_option maxRecDepth 100000 in
set_option maxHeartbeats 1000000 in
theorem width_any (k : Nat) (w : World) (h1 : 1 ≤ k) (h4 : k ≤ 4) : Calls Tryd.prog 52 #[.int .i64 (k : Int)] w fun e w' => e = .returned (.int .i64 (([1, 2, 4, 8] : List Int).getD (k - 1) 0)) ∧ ∃ X, w' = w.alloc X := by
  have : k = 1 ∨ k = 2 ∨ k = 3 ∨ k = 4 := by omega
  rcases this with rfl | rfl | rfl | rfl
  all_goals
    go_enter Tryd.func52, Tryd.ntmps52
    go_wp2
    go_ret
    exact ⟨rfl, _, rfl⟩
theorem keeps_boxes {w : World} (x y z : Obj) : Keeps (fun _ => False) w ((((w.alloc x).alloc y).alloc z).drew) :=
  (((Keeps.alloc (S := fun _ => False) w x).trans (Keeps.alloc (S := fun _ => False) _ y) (fun _ _ h => h)).trans (Keeps.alloc (S := fun _ => False) _ z) (fun _ _ h => h)).drew
set_option maxRecDepth 100000 in
set_option maxHeartbeats 4000000 in
theorem alike_byte {w : World} {pos pos' num num' : Int} {n n' : Nat} {pa pa' : Option Addr} {pl pc pl' pc' : Nat} {s s' : ByteArray} {kind' : Int} (hn : n % 256 = n') :
    Calls Tryd.prog 26 #[.agg #[.int .i64 1, .int .i64 pos, .int .u64 (n : Int), .int .i64 num, .slice pa pl pc, .string s], .agg #[.int .i64 kind', .int .i64 pos', .int .u64 (n' : Int), .int .i64 num', .slice pa' pl' pc', .string s']] w (fun e w' => e = .returned (.bool true) ∧ Keeps (fun _ => False) w w') := by
  have hA : IntKind.u64.wrap (2 ^ min (IntKind.u64.wrap (IntKind.i64.wrap 8)).toNat 64) = 256 := by kernel_rfl
  have hB : (n : Int).tmod 256 = (n' : Int) := by rw [Int.tmod_eq_emod_of_nonneg (by omega)]; omega
  clear hn
  go_enter Tryd.func26, Tryd.ntmps26
  go_wp2_with fail
  go_region_held (fun w' => w'.cell? ⟨w.heap.size, 2, none⟩ = some (.int .u64 (n : Int)) ∧ w'.cell? ⟨w.heap.size, 0, none⟩ = some (.int .i64 1) ∧ w'.cell? ⟨w.heap.size + 1, 2, none⟩ = some (.int .u64 (n' : Int))) (go_keep)
    (first | (go_at_call 52; refine (width_any 1 _ (by decide) (by decide)).mono ?_; rintro e w' ⟨rfl, X, rfl⟩))
  all_goals
    go_wp2
    go_ret
    exact ⟨rfl, keeps_boxes _ _ _⟩
set_option maxRecDepth 100000 in
set_option maxHeartbeats 4000000 in
theorem alike_half {w : World} {pos pos' num num' : Int} {n n' : Nat} {pa pa' : Option Addr} {pl pc pl' pc' : Nat} {s s' : ByteArray} {kind' : Int} (hn : n % 65536 = n') :
    Calls Tryd.prog 26 #[.agg #[.int .i64 2, .int .i64 pos, .int .u64 (n : Int), .int .i64 num, .slice pa pl pc, .string s], .agg #[.int .i64 kind', .int .i64 pos', .int .u64 (n' : Int), .int .i64 num', .slice pa' pl' pc', .string s']] w (fun e w' => e = .returned (.bool true) ∧ Keeps (fun _ => False) w w') := by
  have hA : IntKind.u64.wrap (2 ^ min (IntKind.u64.wrap (IntKind.i64.wrap 16)).toNat 64) = 65536 := by kernel_rfl
  have hB : (n : Int).tmod 65536 = (n' : Int) := by rw [Int.tmod_eq_emod_of_nonneg (by omega)]; omega
  clear hn
  go_enter Tryd.func26, Tryd.ntmps26
  go_wp2_with fail
  go_region_held (fun w' => w'.cell? ⟨w.heap.size, 2, none⟩ = some (.int .u64 (n : Int)) ∧ w'.cell? ⟨w.heap.size, 0, none⟩ = some (.int .i64 2) ∧ w'.cell? ⟨w.heap.size + 1, 2, none⟩ = some (.int .u64 (n' : Int))) (go_keep)
    (first | (go_at_call 52; refine (width_any 2 _ (by decide) (by decide)).mono ?_; rintro e w' ⟨rfl, X, rfl⟩))
  all_goals
    go_wp2
    go_ret
    exact ⟨rfl, keeps_boxes _ _ _⟩
set_option maxRecDepth 100000 in
set_option maxHeartbeats 4000000 in
theorem alike_word {w : World} {pos pos' num num' : Int} {n n' : Nat} {pa pa' : Option Addr} {pl pc pl' pc' : Nat} {s s' : ByteArray} {kind' : Int} (hn : n % 4294967296 = n') :
    Calls Tryd.prog 26 #[.agg #[.int .i64 3, .int .i64 pos, .int .u64 (n : Int), .int .i64 num, .slice pa pl pc, .string s], .agg #[.int .i64 kind', .int .i64 pos', .int .u64 (n' : Int), .int .i64 num', .slice pa' pl' pc', .string s']] w (fun e w' => e = .returned (.bool true) ∧ Keeps (fun _ => False) w w') := by
  have hA : IntKind.u64.wrap (2 ^ min (IntKind.u64.wrap (IntKind.i64.wrap 32)).toNat 64) = 4294967296 := by kernel_rfl
  have hB : (n : Int).tmod 4294967296 = (n' : Int) := by rw [Int.tmod_eq_emod_of_nonneg (by omega)]; omega
  clear hn
  go_enter Tryd.func26, Tryd.ntmps26
  go_wp2_with fail
  go_region_held (fun w' => w'.cell? ⟨w.heap.size, 2, none⟩ = some (.int .u64 (n : Int)) ∧ w'.cell? ⟨w.heap.size, 0, none⟩ = some (.int .i64 3) ∧ w'.cell? ⟨w.heap.size + 1, 2, none⟩ = some (.int .u64 (n' : Int))) (go_keep)
    (first | (go_at_call 52; refine (width_any 3 _ (by decide) (by decide)).mono ?_; rintro e w' ⟨rfl, X, rfl⟩))
  all_goals
    go_wp2
    go_ret
    exact ⟨rfl, keeps_boxes _ _ _⟩
theorem keeps_two {w : World} (x y : Obj) : Keeps (fun _ => False) w ((w.alloc x).alloc y) :=
  (Keeps.alloc (S := fun _ => False) w x).trans (Keeps.alloc (S := fun _ => False) _ y) (fun _ _ h => h)
set_option maxRecDepth 100000 in
set_option maxHeartbeats 1000000 in
theorem alike_long {w : World} {pos pos' num num' : Int} {n n' : Nat} {pa pa' : Option Addr} {pl pc pl' pc' : Nat} {s s' : ByteArray} {kind' : Int}  (hn : n = n') :
    Calls Tryd.prog 26 #[.agg #[.int .i64 4, .int .i64 pos, .int .u64 (n : Int), .int .i64 num, .slice pa pl pc, .string s], .agg #[.int .i64 kind', .int .i64 pos', .int .u64 (n' : Int), .int .i64 num', .slice pa' pl' pc', .string s']] w (fun e w' => e = .returned (.bool true) ∧ Keeps (fun _ => False) w w') := by
  subst hn
  go_enter Tryd.func26, Tryd.ntmps26
  go_wp2
  go_ret
  exact ⟨by simp, keeps_two _ _⟩
set_option maxRecDepth 100000 in
set_option maxHeartbeats 1000000 in
theorem alike_text {w : World} {pos pos' num num' : Int} {n n' : Nat} {pa pa' : Option Addr} {pl pc pl' pc' : Nat} {s s' : ByteArray} {kind' : Int}  (hn : s = s') :
    Calls Tryd.prog 26 #[.agg #[.int .i64 6, .int .i64 pos, .int .u64 (n : Int), .int .i64 num, .slice pa pl pc, .string s], .agg #[.int .i64 kind', .int .i64 pos', .int .u64 (n' : Int), .int .i64 num', .slice pa' pl' pc', .string s']] w (fun e w' => e = .returned (.bool true) ∧ Keeps (fun _ => False) w w') := by
  subst hn
  go_enter Tryd.func26, Tryd.ntmps26
  go_wp2
  go_ret
  exact ⟨by simp, keeps_two _ _⟩
set_option maxRecDepth 100000 in
set_option maxHeartbeats 1000000 in
theorem alike_other {w : World} {pos pos' num num' : Int} {n n' : Nat} {pa pa' : Option Addr} {pl pc pl' pc' : Nat} {s s' : ByteArray} {kind' : Int} {kind : Int} (k1 : kind ≠ 1) (k2 : kind ≠ 2) (k3 : kind ≠ 3) (k4 : kind ≠ 4) (k5 : kind ≠ 5) (k6 : kind ≠ 6) :
    Calls Tryd.prog 26 #[.agg #[.int .i64 kind, .int .i64 pos, .int .u64 (n : Int), .int .i64 num, .slice pa pl pc, .string s], .agg #[.int .i64 kind', .int .i64 pos', .int .u64 (n' : Int), .int .i64 num', .slice pa' pl' pc', .string s']] w (fun e w' => e = .returned (.bool true) ∧ Keeps (fun _ => False) w w') := by
  go_enter Tryd.func26, Tryd.ntmps26
  go_wp2
  go_ret
  exact ⟨rfl, keeps_two _ _⟩
set_option maxRecDepth 100000 in
set_option maxHeartbeats 1000000 in
theorem alike_bytes {w : World} {pos pos' num num' : Int} {n n' : Nat} {pa pa' : Option Addr} {pc pc' : Nat} {ps : List Nat} {s s' : ByteArray} {kind' : Int} (h : Sl w (.slice pa ps.length pc) ps) (h' : Sl w (.slice pa' ps.length pc') ps) :
    Calls Tryd.prog 26 #[.agg #[.int .i64 5, .int .i64 pos, .int .u64 (n : Int), .int .i64 num, .slice pa ps.length pc, .string s], .agg #[.int .i64 kind', .int .i64 pos', .int .u64 (n' : Int), .int .i64 num', .slice pa' ps.length pc', .string s']] w (fun e w' => e = .returned (.bool true) ∧ Keeps (fun _ => False) w w') := by
  have HS : Hid (∀ x y, Sl ((w.alloc x).alloc y) (.slice pa ps.length pc) ps) := fun x y => h.keeps (keeps_two x y) (fun _ _ h => h)
  have HS' : Hid (∀ x y, Sl ((w.alloc x).alloc y) (.slice pa' ps.length pc') ps) := fun x y => h'.keeps (keeps_two x y) (fun _ _ h => h)
  clear h h'
  go_enter Tryd.func26, Tryd.ntmps26
  go_wp2_with (first | (refine wpList_conv (.tmp 33) (by rfl) rfl (by rfl) (HS.out _ _) ?_) | (refine wpList_conv (.tmp 36) (by rfl) rfl (by rfl) (HS'.out _ _) ?_))
  go_ret
  exact ⟨by simp, keeps_two _ _⟩
theorem alike_any {w : World} {a b : OpV} (ha : Sl w a.pv a.ps) (hb : Sl w b.pv b.ps) (h : AlikeH a b) :
    Calls Tryd.prog 26 #[.agg a.vals, .agg b.vals] w (fun e w' => e = .returned (.bool true) ∧ Keeps (fun _ => False) w w') := by
  obtain ⟨kind, pos, n, num, pv, ps, s⟩ := a
  obtain ⟨kind', pos', n', num', pv', ps', s'⟩ := b
  have ha' : Sl w pv ps := ha
  have hb' : Sl w pv' ps' := hb
  clear ha hb
  obtain ⟨x, c, e, _⟩ := id ha'
  obtain ⟨x', c', e', _⟩ := id hb'
  subst e
  subst e'
  unfold AlikeH at h
  dsimp only at h
  by_cases k1 : kind = 1
  · subst k1; rw [if_pos rfl] at h; exact alike_byte h
  rw [if_neg k1] at h
  by_cases k2 : kind = 2
  · subst k2; rw [if_pos rfl] at h; exact alike_half h
  rw [if_neg k2] at h
  by_cases k3 : kind = 3
  · subst k3; rw [if_pos rfl] at h; exact alike_word h
  rw [if_neg k3] at h
  by_cases k4 : kind = 4
  · subst k4; rw [if_pos rfl] at h; exact alike_long h
  rw [if_neg k4] at h
  by_cases k5 : kind = 5
  · subst k5; rw [if_pos rfl] at h; subst h; exact alike_bytes ha' hb'
  rw [if_neg k5] at h
  by_cases k6 : kind = 6
  · subst k6; rw [if_pos rfl] at h; exact alike_text h
  exact alike_other k1 k2 k3 k4 k5 k6
end Go.Proofs.YtlcjdofciogfaaaDoor
