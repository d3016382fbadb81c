/- WordReads: step. Own work. -/
import Derived.Test.YtceljnkbkpgdjaaDoorRdOpn
import Derived.Deep.RegionHeld
namespace Go.Proofs.YtceljnkbkpgdjaaDoor
open Go.RowKit Go.Shelf
set_option linter.unusedVariables false
set_option maxRecDepth 100000 in
set_option maxHeartbeats 1000000 in
theorem bookWithin_any {n : Int} {hi : Nat} (hh : hi ≤ 1048576) (w : World) :
    Calls Tryd.prog 15 #[.int .i64 n, .int .i64 0, .int .i64 (hi : Int)] w fun e w' => ∃ r : Nat, e = .returned (.int .i64 (r : Int)) ∧ r ≤ hi ∧ w' = w := by
  obtain ⟨q, hq⟩ : ∃ q, q = n.tmod ((hi : Int) + 1) := ⟨_, rfl⟩
  have hq1 : -((hi : Int) + 1) < q ∧ q < (hi : Int) + 1 := by
    have := Int.tmod_lt_of_pos n (b := (hi : Int) + 1) (by omega)
    have := Int.lt_tmod_of_pos n (b := (hi : Int) + 1) (by omega)
    omega
  have hne : (hi : Int) + 1 ≠ 0 := by omega
  go_enter Tryd.func15, Tryd.ntmps15
  go_wp2_with fail
  all_goals (go_ret; rw [← hq] at *)
  · exact ⟨(q + hi + 1).toNat, by rw [Int.toNat_of_nonneg (by omega)]; rfl, by omega, rfl⟩
  · exact ⟨q.toNat, by rw [Int.toNat_of_nonneg (by omega)]; rfl, by omega, rfl⟩
theorem Rh.look {w0 w : World} {X i : Nat} {v : Value} {zs : List Nat} {L : List Ri} {A B : Value} (h : Rh w0 X v zs L (L.map ptrD) (L.map ptrE) A B w) (hi : i < L.length) : ∃ ga oa ca gb ob cb, A = .slice (some ⟨ga, oa, none⟩) L.length ca ∧ L.length ≤ ca ∧ B = .slice (some ⟨gb, ob, none⟩) L.length cb ∧ L.length ≤ cb ∧ w.cell? ⟨ga, oa + i, none⟩ = some (.pointer (some ⟨L[i].p, 0, none⟩)) ∧ w.cell? ⟨gb, ob + i, none⟩ = some (.pointer (some ⟨L[i].r, 0, none⟩)) := by
  obtain ⟨ga, oa, ca, rfl, h1⟩ := h.ra.some_of (by rw [List.length_map]; omega)
  obtain ⟨gb, ob, cb, rfl, h2⟩ := h.rb.some_of (by rw [List.length_map]; omega)
  have c1 := h.ra.cell i (by rw [List.length_map]; exact hi)
  have c2 := h.rb.cell i (by rw [List.length_map]; exact hi)
  rw [List.getElem_map] at c1 c2
  rw [List.length_map] at h1 h2
  exact ⟨ga, oa, ca, gb, ob, cb, by rw [List.length_map], h1, by rw [List.length_map], h2, c1, c2⟩
theorem set_map {L : List Ri} {i : Nat} (hi : i < L.length) (a : Nat) (b : Int) : (L.set i ⟨L[i].p, L[i].g, L[i].r, a, b⟩).map ptrD = L.map ptrD ∧ (L.set i ⟨L[i].p, L[i].g, L[i].r, a, b⟩).map ptrE = L.map ptrE := by
  constructor
  · rw [List.map_set]
    apply List.ext_getElem (by simp)
    intro j a1 a2
    rw [List.getElem_set]
    split
    · next e => subst e; simp [ptrD]
    · rfl
  · rw [List.map_set]
    apply List.ext_getElem (by simp)
    intro j a1 a2
    rw [List.getElem_set]
    split
    · next e => subst e; simp [ptrE]
    · rfl
set_option maxRecDepth 100000 in
set_option maxHeartbeats 4000000 in
theorem rstep_new {w0 w : World} {X : Nat} {v : Value} {zs : List Nat} {L : List Ri} {A B : Value} {kind pos0 num : Int} {n : Nat} {pa : Option Addr} {pl pc : Nat} {s : ByteArray} (h : Rh w0 X v zs L (L.map ptrD) (L.map ptrE) A B w) (hL : L.length ≤ 20) (hk : kind = 10) :
    Calls Tryd.prog 12 #[.pointer (some ⟨X, 0, none⟩), .agg #[.int .i64 kind, .int .i64 pos0, .int .u64 (n : Int), .int .i64 num, .slice pa pl pc, .string s]] w fun e w' => e = .returned (.bool true) ∧ ∃ (L' : List Ri) (A' B' : Value), Rh w0 X v zs L' (L'.map ptrD) (L'.map ptrE) A' B' w' ∧ L.length ≤ L'.length ∧ L'.length ≤ 20 := by
  have hba : Below w.heap.size w (w.alloc (.cells #[.int .i64 kind, .int .i64 pos0, .int .u64 (n : Int), .int .i64 num, .slice pa pl pc, .string s] 36)) := (Below.refl _ _).alloc (Nat.le_refl _) _
  have h1 := h.of_below hba
  have H1 := Lib.hid h1
  obtain ⟨aa, ac, rfl⟩ := h1.ra.form
  obtain ⟨_, x1, _, xl, _⟩ := h1.cells
  rw [List.length_map] at x1
  have HO := Lib.hid (opens_any h1 (by omega))
  have f10 : (kind == 10) = true := by rw [hk]; decide
  obtain ⟨m, hm⟩ : ∃ m, L.length = m := ⟨_, rfl⟩
  have HmL := Lib.hid hm
  rw [hm] at x1 hL
  clear h hba h1 hm hk
  by_cases h20 : m < 20
  · have j20 : ¬ (20 : Int) ≤ (m : Int) := by omega
    go_enter Tryd.func12, Tryd.ntmps12
    go_wp2_with fail
    refine HO.out.mono ?_
    rintro e w2 ⟨rfl, x, A', B', h2⟩
    have HZ : Hid (∃ (L' : List Ri) (A' B' : Value), Rh w0 X v zs L' (L'.map ptrD) (L'.map ptrE) A' B' w2 ∧ L.length ≤ L'.length ∧ L'.length ≤ 20) := ⟨L ++ [x], A', B', h2, by simp, by rw [List.length_append, List.length_singleton, HmL.out]; omega⟩
    clear h2
    go_wp2_with fail
    go_ret
    exact ⟨rfl, HZ.out⟩
  · have j20 : (20 : Int) ≤ (m : Int) := by omega
    have HZ : Hid (∃ (L' : List Ri) (A' B' : Value), Rh w0 X v zs L' (L'.map ptrD) (L'.map ptrE) A' B' (w.alloc (.cells #[.int .i64 kind, .int .i64 pos0, .int .u64 (n : Int), .int .i64 num, .slice pa pl pc, .string s] 36)) ∧ L.length ≤ L'.length ∧ L'.length ≤ 20) := ⟨L, _, _, H1.out, Nat.le_refl _, by rw [HmL.out]; exact hL⟩
    go_enter Tryd.func12, Tryd.ntmps12
    go_wp2_with fail
    go_ret
    exact ⟨rfl, HZ.out⟩
set_option maxRecDepth 100000 in
set_option maxHeartbeats 4000000 in
theorem rstep_take {w0 w : World} {X : Nat} {v : Value} {zs : List Nat} {L : List Ri} {A B : Value} {kind pos0 num : Int} {n : Nat} {pa : Option Addr} {pl pc : Nat} {s : ByteArray} (h : Rh w0 X v zs L (L.map ptrD) (L.map ptrE) A B w) (hL0 : 0 < L.length) (hL : L.length ≤ 20) (hnum : num ≤ 9223372036854775807) (ht : Tab w0) (hk : kind ≠ 10) :
    Calls Tryd.prog 12 #[.pointer (some ⟨X, 0, none⟩), .agg #[.int .i64 kind, .int .i64 pos0, .int .u64 (n : Int), .int .i64 num, .slice pa pl pc, .string s]] w fun e w' => e = .returned (.bool true) ∧ ∃ (L' : List Ri) (A' B' : Value), Rh w0 X v zs L' (L'.map ptrD) (L'.map ptrE) A' B' w' ∧ L.length ≤ L'.length ∧ L'.length ≤ 20 := by
  have hba : Below w.heap.size w (w.alloc (.cells #[.int .i64 kind, .int .i64 pos0, .int .u64 (n : Int), .int .i64 num, .slice pa pl pc, .string s] 36)) := (Below.refl _ _).alloc (Nat.le_refl _) _
  have HX : Hid ((w.alloc (.cells #[.int .i64 kind, .int .i64 pos0, .int .u64 (n : Int), .int .i64 num, .slice pa pl pc, .string s] 36)).heap[w.heap.size]? = some (.cells #[.int .i64 kind, .int .i64 pos0, .int .u64 (n : Int), .int .i64 num, .slice pa pl pc, .string s] 36 (0, 0))) := heap_alloc_new w _
  have h1 := h.of_below hba
  have H1 := Lib.hid h1
  have HM : Hid (Rh w0 X v zs L (L.map ptrD) (L.map ptrE) A B (w.alloc (.cells #[.int .i64 kind, .int .i64 pos0, .int .u64 (n : Int), .int .i64 num, .slice pa pl pc, .string s] 36)).drew.drew) := h1.of_below ((Below.refl _ _).drew.drew)
  have HTb : Hid (Tab (w.alloc (.cells #[.int .i64 kind, .int .i64 pos0, .int .u64 (n : Int), .int .i64 num, .slice pa pl pc, .string s] 36)).drew.drew) := ht.below HM.out.below
  obtain ⟨aa, ac, rfl⟩ := h1.ra.form
  obtain ⟨ba, bc, rfl⟩ := h1.rb.form
  obtain ⟨_, x1, x2, xl, _⟩ := h1.cells
  rw [List.length_map] at x1 x2
  obtain ⟨m, hmL⟩ : ∃ m, L.length = m := ⟨_, rfl⟩
  have HmL := Lib.hid hmL
  rw [hmL] at hL0 hL x1 x2
  have jm : IntKind.i64.wrap ((m : Int) - 1) = ((m - 1 : Nat) : Int) := by rw [IntKind.wrap_i64]; omega
  have HWi := Lib.hid (fun W => bookWithin_any (n := pos0) (hi := m - 1) (by omega) W)
  have f10 : (kind == 10) = false := by simpa using hk
  have q0 : (w.alloc (.cells #[.int .i64 kind, .int .i64 pos0, .int .u64 (n : Int), .int .i64 num, .slice pa pl pc, .string s] 36)).cell? ⟨w.heap.size, 0, none⟩ = some (.int .i64 kind) := by rw [cell_of_row _ _ _ _ _ _ HX.out]; rfl
  have q1 : (w.alloc (.cells #[.int .i64 kind, .int .i64 pos0, .int .u64 (n : Int), .int .i64 num, .slice pa pl pc, .string s] 36)).cell? ⟨w.heap.size, 1, none⟩ = some (.int .i64 pos0) := by rw [cell_of_row _ _ _ _ _ _ HX.out]; rfl
  have q2 : (w.alloc (.cells #[.int .i64 kind, .int .i64 pos0, .int .u64 (n : Int), .int .i64 num, .slice pa pl pc, .string s] 36)).cell? ⟨w.heap.size, 2, none⟩ = some (.int .u64 (n : Int)) := by rw [cell_of_row _ _ _ _ _ _ HX.out]; rfl
  have q3 : (w.alloc (.cells #[.int .i64 kind, .int .i64 pos0, .int .u64 (n : Int), .int .i64 num, .slice pa pl pc, .string s] 36)).cell? ⟨w.heap.size, 3, none⟩ = some (.int .i64 num) := by rw [cell_of_row _ _ _ _ _ _ HX.out]; rfl
  have q4 : (w.alloc (.cells #[.int .i64 kind, .int .i64 pos0, .int .u64 (n : Int), .int .i64 num, .slice pa pl pc, .string s] 36)).cell? ⟨w.heap.size, 4, none⟩ = some (.slice pa pl pc) := by rw [cell_of_row _ _ _ _ _ _ HX.out]; rfl
  have q5 : (w.alloc (.cells #[.int .i64 kind, .int .i64 pos0, .int .u64 (n : Int), .int .i64 num, .slice pa pl pc, .string s] 36)).cell? ⟨w.heap.size, 5, none⟩ = some (.string s) := by rw [cell_of_row _ _ _ _ _ _ HX.out]; rfl
  have HNum := Lib.hid hnum
  clear h hba h1 hmL ht hk hnum
  go_enter Tryd.func12, Tryd.ntmps12
  go_wp2_with fail
  go_region_held3 (fun w' => w'.cell? ⟨X, 1, none⟩ = some (.slice aa m ac) ∧ w'.cell? ⟨w.heap.size, 1, none⟩ = some (.int .i64 pos0)) (exact ⟨x1, q1⟩) (first | (go_at_call 15; refine (HWi.out _).mono ?_; rintro e w' ⟨r, rfl, hr, hw⟩; have hw := hw.symm; subst hw))
  have hri : r < L.length := by rw [HmL.out]; omega
  have HRi := Lib.hid hri
  obtain ⟨ga, oa, ca, gb, ob, cb, e1, ha, e2, hb, ea, eb⟩ := HM.out.look hri
  rw [HmL.out] at ha hb
  rw [List.length_map, HmL.out] at e1 e2
  simp only [Value.slice.injEq] at e1 e2
  obtain ⟨rfl, _, rfl⟩ := e1
  obtain ⟨rfl, _, rfl⟩ := e2
  have HTk := Lib.hid (takes_any (kind := kind) (pos0 := pos0) (num := num) (n := n) (pa := pa) (pl := pl) (pc := pc) (s := s) HM.out hri HNum.out HTb.out)
  have HFn : Hid (∀ (y : Nat × Int) w3, Rh w0 X v zs (L.set r ⟨L[r].p, L[r].g, L[r].r, y.1, y.2⟩) (L.map ptrD) (L.map ptrE) (.slice (some ⟨ga, oa, none⟩) (L.map ptrD).length ac) (.slice (some ⟨gb, ob, none⟩) (L.map ptrE).length bc) w3 → ((fun w' => w'.cell? ⟨X, 1, none⟩ = some (.slice (some ⟨ga, oa, none⟩) m ac) ∧ w'.cell? ⟨X, 2, none⟩ = some (.slice (some ⟨gb, ob, none⟩) m bc) ∧ w'.cell? ⟨ga, oa + r, none⟩ = some (.pointer (some ⟨L[r].p, 0, none⟩)) ∧ w'.cell? ⟨gb, ob + r, none⟩ = some (.pointer (some ⟨L[r].r, 0, none⟩))) w3 ∧ Calls Tryd.prog 13 #[.pointer (some ⟨L[r].p, 0, none⟩), .pointer (some ⟨L[r].r, 0, none⟩)] w3 fun e w' => e = .returned (.bool true) ∧ Stay w3 w' ∧ ∃ (L' : List Ri) (A' B' : Value), Rh w0 X v zs L' (L'.map ptrD) (L'.map ptrE) A' B' w' ∧ L.length ≤ L'.length ∧ L'.length ≤ 20)) := fun y w3 h3 => by
    obtain ⟨_, c1, c2, _, _⟩ := h3.cells
    rw [List.length_map, HmL.out] at c1 c2
    have d1 := h3.ra.cell r (by rw [List.length_map]; exact HRi.out)
    have d2 := h3.rb.cell r (by rw [List.length_map]; exact HRi.out)
    rw [List.getElem_map] at d1 d2
    have ox := h3.ok ⟨L[r].p, L[r].g, L[r].r, y.1, y.2⟩ (List.mem_set HRi.out _)
    refine ⟨⟨c1, c2, d1, d2⟩, (told_any ox.rd ox.rr ox.w0 ox.w1).mono ?_⟩
    rintro e w' ⟨he, hst⟩
    have h4 := h3.of_below hst.2
    obtain ⟨s1, s2⟩ := set_map HRi.out y.1 y.2
    rw [← s1, ← s2] at h4
    exact ⟨he, hst, _, _, _, h4, by rw [List.length_set]; exact Nat.le_refl _, by rw [List.length_set, HmL.out]; exact hL⟩
  generalize hx : L[r] = x at *
  have jr : (r : Int) < (m : Int) := by have := HRi.out; have := HmL.out; omega
  clear hri hx
  go_wp2_with fail
  go_region_held3 (fun w' => w'.cell? ⟨X, 1, none⟩ = some (.slice (some ⟨ga, oa, none⟩) m ac) ∧ w'.cell? ⟨X, 2, none⟩ = some (.slice (some ⟨gb, ob, none⟩) m bc) ∧ w'.cell? ⟨ga, oa + r, none⟩ = some (.pointer (some ⟨x.p, 0, none⟩)) ∧ w'.cell? ⟨gb, ob + r, none⟩ = some (.pointer (some ⟨x.r, 0, none⟩)) ∧ w'.cell? ⟨w.heap.size, 0, none⟩ = some (.int .i64 kind) ∧ w'.cell? ⟨w.heap.size, 1, none⟩ = some (.int .i64 pos0) ∧ w'.cell? ⟨w.heap.size, 2, none⟩ = some (.int .u64 (n : Int)) ∧ w'.cell? ⟨w.heap.size, 3, none⟩ = some (.int .i64 num) ∧ w'.cell? ⟨w.heap.size, 4, none⟩ = some (.slice pa pl pc) ∧ w'.cell? ⟨w.heap.size, 5, none⟩ = some (.string s)) (first | exact ⟨x1, x2, ea, eb, q0, q1, q2, q3, q4, q5⟩ | exact hS3 | exact hS4) (first
    | (go_at_call 25; refine HTk.out.mono ?_; rintro e w3 ⟨rfl, ⟨y, h3⟩, hok⟩; have hS3 : (fun w' => w'.cell? ⟨X, 1, none⟩ = some (.slice (some ⟨ga, oa, none⟩) m ac) ∧ w'.cell? ⟨X, 2, none⟩ = some (.slice (some ⟨gb, ob, none⟩) m bc) ∧ w'.cell? ⟨ga, oa + r, none⟩ = some (.pointer (some ⟨x.p, 0, none⟩)) ∧ w'.cell? ⟨gb, ob + r, none⟩ = some (.pointer (some ⟨x.r, 0, none⟩)) ∧ w'.cell? ⟨w.heap.size, 0, none⟩ = some (.int .i64 kind) ∧ w'.cell? ⟨w.heap.size, 1, none⟩ = some (.int .i64 pos0) ∧ w'.cell? ⟨w.heap.size, 2, none⟩ = some (.int .u64 (n : Int)) ∧ w'.cell? ⟨w.heap.size, 3, none⟩ = some (.int .i64 num) ∧ w'.cell? ⟨w.heap.size, 4, none⟩ = some (.slice pa pl pc) ∧ w'.cell? ⟨w.heap.size, 5, none⟩ = some (.string s)) w3 := ⟨(HFn.out y w3 h3).1.1, (HFn.out y w3 h3).1.2.1, (HFn.out y w3 h3).1.2.2.1, (HFn.out y w3 h3).1.2.2.2, hok.cell HX.out rfl, hok.cell HX.out rfl, hok.cell HX.out rfl, hok.cell HX.out rfl, hok.cell HX.out rfl, hok.cell HX.out rfl⟩; have HTd := Lib.hid (HFn.out y w3 h3).2; clear h3 hok)
    | (go_at_call 13; refine HTd.out.mono ?_; rintro e w4 ⟨rfl, hst, h4⟩; have hS4 : (fun w' => w'.cell? ⟨X, 1, none⟩ = some (.slice (some ⟨ga, oa, none⟩) m ac) ∧ w'.cell? ⟨X, 2, none⟩ = some (.slice (some ⟨gb, ob, none⟩) m bc) ∧ w'.cell? ⟨ga, oa + r, none⟩ = some (.pointer (some ⟨x.p, 0, none⟩)) ∧ w'.cell? ⟨gb, ob + r, none⟩ = some (.pointer (some ⟨x.r, 0, none⟩)) ∧ w'.cell? ⟨w.heap.size, 0, none⟩ = some (.int .i64 kind) ∧ w'.cell? ⟨w.heap.size, 1, none⟩ = some (.int .i64 pos0) ∧ w'.cell? ⟨w.heap.size, 2, none⟩ = some (.int .u64 (n : Int)) ∧ w'.cell? ⟨w.heap.size, 3, none⟩ = some (.int .i64 num) ∧ w'.cell? ⟨w.heap.size, 4, none⟩ = some (.slice pa pl pc) ∧ w'.cell? ⟨w.heap.size, 5, none⟩ = some (.string s)) w4 := ⟨(cell_heap hst.1 _).trans hS3.1, (cell_heap hst.1 _).trans hS3.2.1, (cell_heap hst.1 _).trans hS3.2.2.1, (cell_heap hst.1 _).trans hS3.2.2.2.1, (cell_heap hst.1 _).trans hS3.2.2.2.2.1, (cell_heap hst.1 _).trans hS3.2.2.2.2.2.1, (cell_heap hst.1 _).trans hS3.2.2.2.2.2.2.1, (cell_heap hst.1 _).trans hS3.2.2.2.2.2.2.2.1, (cell_heap hst.1 _).trans hS3.2.2.2.2.2.2.2.2.1, (cell_heap hst.1 _).trans hS3.2.2.2.2.2.2.2.2.2⟩; have HZ := Lib.hid h4; clear h4 hst))
  go_wp2_with fail
  go_ret
  exact ⟨rfl, HZ.out⟩
end Go.Proofs.YtceljnkbkpgdjaaDoor
