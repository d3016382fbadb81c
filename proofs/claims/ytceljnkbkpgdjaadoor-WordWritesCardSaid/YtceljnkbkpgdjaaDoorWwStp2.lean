/- WordWrites: step, of writers that are there. Own work. -/
import Derived.Test.YtceljnkbkpgdjaaDoorWwStep
namespace Go.Proofs.YtceljnkbkpgdjaaDoor
open Go.RowKit Go.Shelf
set_option linter.unusedVariables false
set_option maxRecDepth 100000 in
set_option maxHeartbeats 4000000 in
theorem step_tell {w0 w : World} {X : Nat} {c : Nat → Nat} {L : List Wi} {kind pos num : Int} {n : Nat} {pa : Option Addr} {pl pc : Nat} {s : ByteArray} (h : Ws w0 X c L w) (hL0 : 0 < L.length) (hL : L.length ≤ 1048576) (hg : Good 549755812888 L) (hk : kind = 9) :
    Calls Tryd.prog 6 #[.pointer (some ⟨X, 0, none⟩), .agg #[.int .i64 kind, .int .i64 pos, .int .u64 (n : Int), .int .i64 num, .slice pa pl pc, .string s]] w fun e w' => e = .returned (.bool true) ∧ ∃ c', Ws w0 X c' L w' := by
  have hba : Below w.heap.size w (w.alloc (.cells #[.int .i64 kind, .int .i64 pos, .int .u64 (n : Int), .int .i64 num, .slice pa pl pc, .string s] 36)) := (Below.refl _ _).alloc (Nat.le_refl _) _
  have HBa := Lib.hid hba
  have HX : Hid ((w.alloc (.cells #[.int .i64 kind, .int .i64 pos, .int .u64 (n : Int), .int .i64 num, .slice pa pl pc, .string s] 36)).heap[w.heap.size]? = some (.cells #[.int .i64 kind, .int .i64 pos, .int .u64 (n : Int), .int .i64 num, .slice pa pl pc, .string s] 36 (0, 0))) := heap_alloc_new w _
  have hs1 := h.of_below hba
  have HS1 := Lib.hid hs1
  obtain ⟨A, B, hm⟩ := hs1.wm
  obtain ⟨aa, ac, rfl⟩ := hm.ra.form
  obtain ⟨ba, bc, rfl⟩ := hm.rb.form
  simp only [List.length_map] at hm
  obtain ⟨x0, x1, xl, xt⟩ := hm.cells
  obtain ⟨m, hmL⟩ : ∃ m, L.length = m := ⟨_, rfl⟩
  have HmL := Lib.hid hmL
  rw [hmL] at hL0 hL x0 x1
  have jm : IntKind.i64.wrap ((m : Int) - 1) = ((m - 1 : Nat) : Int) := by rw [IntKind.wrap_i64]; omega
  have HWi := Lib.hid (fun W => bookWithin_any (n := pos) (hi := m - 1) (by omega) W)
  have HT : Hid (∀ i, i < m → Calls Tryd.prog 7 #[.pointer (some ⟨X, 0, none⟩), .int .i64 (i : Int)] (w.alloc (.cells #[.int .i64 kind, .int .i64 pos, .int .u64 (n : Int), .int .i64 num, .slice pa pl pc, .string s] 36)).drew fun e w' => e = .returned (.bool true) ∧ ∃ c', Ws w0 X c' L w') := fun i hi => tells_any (HS1.out.of_below ((Below.refl _ _).drew)) (by rw [HmL.out]; exact hi) hg (by rw [HmL.out]; exact hL)
  have f10 : (kind == 10) = false := by rw [hk]; decide
  have f9 : (kind == 9) = true := by rw [hk]; decide
  have q1 : (w.alloc (.cells #[.int .i64 kind, .int .i64 pos, .int .u64 (n : Int), .int .i64 num, .slice pa pl pc, .string s] 36)).cell? ⟨w.heap.size, 1, none⟩ = some (.int .i64 pos) := by rw [cell_of_row _ _ _ _ _ _ HX.out]; rfl
  clear h hba hs1 hm hmL hg hk
  go_enter Tryd.func6, Tryd.ntmps6
  go_wp2_with fail
  go_region_held3 (fun w' => w'.cell? ⟨X, 0, none⟩ = some (.slice aa m ac) ∧ w'.cell? ⟨w.heap.size, 1, none⟩ = some (.int .i64 pos)) (exact ⟨x0, q1⟩) (first | (go_at_call 15; refine (HWi.out _).mono ?_; rintro e w' ⟨r, rfl, hr, hw⟩; have hw := hw.symm; subst hw))
  have HTr := Lib.hid (HT.out r (by omega))
  go_wp2_with fail
  refine HTr.out.mono ?_
  rintro e w3 ⟨rfl, h3⟩
  have HS3 := Lib.hid h3
  clear h3 HTr HT
  go_wp2_with fail
  go_ret
  exact ⟨rfl, HS3.out⟩
theorem layW_why (zs : List Nat) (why : Int) (o : OpV) (h0 : 0 ≤ why) (h1 : why ≤ 12) : 0 ≤ (layW zs why o).2 ∧ (layW zs why o).2 ≤ 12 := by
  unfold layW layF
  repeat' split
  all_goals (first | exact ⟨h0, h1⟩ | exact ⟨show (0 : Int) ≤ 0 by decide, show (0 : Int) ≤ 12 by decide⟩ | exact ⟨show (0 : Int) ≤ 1 by decide, show (1 : Int) ≤ 12 by decide⟩ | exact ⟨show (0 : Int) ≤ 3 by decide, show (3 : Int) ≤ 12 by decide⟩)
/-- the cells that a step on a writer leaves alone -/
theorem LaysPost.cell {w0 w w' : World} {x : Wi} {i : Nat} {c : Nat → Nat} {y : List Nat × Int} {e : Ending} (ho : x.ok w w0.heap.size c i) (hp : LaysPost w x.p x.r w0.heap.size x.v x.u y e w') {b j : Nat} {v : Value} (hc : w.cell? ⟨b, j, none⟩ = some v) (hn : ¬ (Foot x.p x.v b ∨ Foot x.r x.u b)) : w'.cell? ⟨b, j, none⟩ = some v := by
  obtain ⟨_, v', u', a1, a2, k, _⟩ := hp
  rw [World.cell?_of_block (w := w) (a := ⟨b, j, none⟩) (k.block b (World.block_lt_of_cell? w _ hc) hn)]
  exact hc
theorem Wi.ok.off {w : World} {base i b : Nat} {c : Nat → Nat} {x : Wi} {t : TypeId} (ho : x.ok w base c i) (hb : Tg w b t) (h1 : t ≠ 73) (h2 : t ≠ 55) (h3 : t ≠ 5) : ¬ (Foot x.p x.v b ∨ Foot x.r x.u b) := by
  rintro ((rfl | hq) | (rfl | hq))
  · exact hb.ne ⟨_, ho.wr.1⟩ h1
  · exact hb.ne (ho.wr.2.1.tagB b hq) h3
  · exact hb.ne ⟨_, ho.rw.1⟩ h2
  · exact hb.ne (ho.rw.2.1.tagB b hq) h3
set_option maxRecDepth 100000 in
set_option maxHeartbeats 4000000 in
theorem step_lay {w0 w : World} {X : Nat} {c : Nat → Nat} {L : List Wi} {kind pos num : Int} {n : Nat} {pa : Option Addr} {pl pc : Nat} {ps : List Nat} {s : ByteArray} {N : Nat} (h : Ws w0 X c L w) (hL0 : 0 < L.length) (hL : L.length ≤ 1048576) (hg : Good N L) (hN : N ≤ 549755812888) (ho : (⟨kind, pos, n, num, .slice pa pl pc, ps, s⟩ : OpV).Ok w w0.heap.size) (ht : Tab w0) (hk9 : kind ≠ 9) (hk10 : kind ≠ 10) :
    Calls Tryd.prog 6 #[.pointer (some ⟨X, 0, none⟩), .agg #[.int .i64 kind, .int .i64 pos, .int .u64 (n : Int), .int .i64 num, .slice pa pl pc, .string s]] w fun e w' => e = .returned (.bool true) ∧ ∃ c' L', Ws w0 X c' L' w' ∧ L'.length = L.length ∧ Good (N + 4096 + ps.length + s.size) L' := by
  have hba : Below w.heap.size w (w.alloc (.cells #[.int .i64 kind, .int .i64 pos, .int .u64 (n : Int), .int .i64 num, .slice pa pl pc, .string s] 36)) := (Below.refl _ _).alloc (Nat.le_refl _) _
  have HBa := Lib.hid hba
  have HX : Hid ((w.alloc (.cells #[.int .i64 kind, .int .i64 pos, .int .u64 (n : Int), .int .i64 num, .slice pa pl pc, .string s] 36)).heap[w.heap.size]? = some (.cells #[.int .i64 kind, .int .i64 pos, .int .u64 (n : Int), .int .i64 num, .slice pa pl pc, .string s] 36 (0, 0))) := heap_alloc_new w _
  have hs1 := h.of_below hba
  have HS1 := Lib.hid hs1
  obtain ⟨A, B, hm⟩ := hs1.wm
  obtain ⟨aa, ac, rfl⟩ := hm.ra.form
  obtain ⟨ba, bc, rfl⟩ := hm.rb.form
  simp only [List.length_map] at hm
  obtain ⟨x0, x1, xl, xt⟩ := hm.cells
  obtain ⟨m, hmL⟩ : ∃ m, L.length = m := ⟨_, rfl⟩
  have HmL := Lib.hid hmL
  rw [hmL] at hL0 hL x0 x1
  have jm : IntKind.i64.wrap ((m : Int) - 1) = ((m - 1 : Nat) : Int) := by rw [IntKind.wrap_i64]; omega
  have HWi := Lib.hid (fun W => bookWithin_any (n := pos) (hi := m - 1) (by omega) W)
  have HM := Lib.hid hm
  have HG : Hid (Good N L) := hg
  have HOk : Hid ((⟨kind, pos, n, num, .slice pa pl pc, ps, s⟩ : OpV).Ok (w.alloc (.cells #[.int .i64 kind, .int .i64 pos, .int .u64 (n : Int), .int .i64 num, .slice pa pl pc, .string s] 36)).drew.drew w0.heap.size) := ⟨ho.1.below (hba.drew.drew), ho.2⟩
  have HTb : Hid (Tab (w.alloc (.cells #[.int .i64 kind, .int .i64 pos, .int .u64 (n : Int), .int .i64 num, .slice pa pl pc, .string s] 36)).drew.drew) := ht.below (HS1.out.below.drew.drew)
  have HSd : Hid (Ws w0 X c L (w.alloc (.cells #[.int .i64 kind, .int .i64 pos, .int .u64 (n : Int), .int .i64 num, .slice pa pl pc, .string s] 36)).drew.drew) := HS1.out.of_below ((Below.refl _ _).drew.drew)
  have HPl : Hid (ps.length ≤ 2147483647) := ho.2.2.1
  have HNb := Lib.hid hN
  have f10 : (kind == 10) = false := by simpa using hk10
  have f9 : (kind == 9) = false := by simpa using hk9
  have q0 : (w.alloc (.cells #[.int .i64 kind, .int .i64 pos, .int .u64 (n : Int), .int .i64 num, .slice pa pl pc, .string s] 36)).cell? ⟨w.heap.size, 0, none⟩ = some (.int .i64 kind) := by rw [cell_of_row _ _ _ _ _ _ HX.out]; rfl
  have q1 : (w.alloc (.cells #[.int .i64 kind, .int .i64 pos, .int .u64 (n : Int), .int .i64 num, .slice pa pl pc, .string s] 36)).cell? ⟨w.heap.size, 1, none⟩ = some (.int .i64 pos) := by rw [cell_of_row _ _ _ _ _ _ HX.out]; rfl
  have q2 : (w.alloc (.cells #[.int .i64 kind, .int .i64 pos, .int .u64 (n : Int), .int .i64 num, .slice pa pl pc, .string s] 36)).cell? ⟨w.heap.size, 2, none⟩ = some (.int .u64 (n : Int)) := by rw [cell_of_row _ _ _ _ _ _ HX.out]; rfl
  have q3 : (w.alloc (.cells #[.int .i64 kind, .int .i64 pos, .int .u64 (n : Int), .int .i64 num, .slice pa pl pc, .string s] 36)).cell? ⟨w.heap.size, 3, none⟩ = some (.int .i64 num) := by rw [cell_of_row _ _ _ _ _ _ HX.out]; rfl
  have q4 : (w.alloc (.cells #[.int .i64 kind, .int .i64 pos, .int .u64 (n : Int), .int .i64 num, .slice pa pl pc, .string s] 36)).cell? ⟨w.heap.size, 4, none⟩ = some (.slice pa pl pc) := by rw [cell_of_row _ _ _ _ _ _ HX.out]; rfl
  have q5 : (w.alloc (.cells #[.int .i64 kind, .int .i64 pos, .int .u64 (n : Int), .int .i64 num, .slice pa pl pc, .string s] 36)).cell? ⟨w.heap.size, 5, none⟩ = some (.string s) := by rw [cell_of_row _ _ _ _ _ _ HX.out]; rfl
  clear h hba hs1 hm hmL hg hk9 hk10 ho ht hN
  go_enter Tryd.func6, Tryd.ntmps6
  go_wp2_with fail
  go_region_held3 (fun w' => w'.cell? ⟨X, 0, none⟩ = some (.slice aa m ac) ∧ w'.cell? ⟨w.heap.size, 1, none⟩ = some (.int .i64 pos)) (exact ⟨x0, q1⟩) (first | (go_at_call 15; refine (HWi.out _).mono ?_; rintro e w' ⟨r, rfl, hr, hw⟩; have hw := hw.symm; subst hw))
  have hri : r < L.length := by rw [HmL.out]; omega
  have HRi := Lib.hid hri
  obtain ⟨ga, oa, ca, gb, ob, cb, e1, ha, e2, hb, ea, eb⟩ := HM.out.look hri
  rw [HmL.out] at e1 e2 ha hb
  simp only [Value.slice.injEq] at e1 e2
  obtain ⟨rfl, _, rfl⟩ := e1
  obtain ⟨rfl, _, rfl⟩ := e2
  have hoi := HSd.out.ok r hri
  have HO := Lib.hid hoi
  have hgr := HG.out _ (List.getElem_mem hri)
  have HGr := Lib.hid hgr
  have HLa := Lib.hid (show Calls Tryd.prog 16 #[.pointer (some ⟨L[r].p, 0, none⟩), .pointer (some ⟨L[r].r, 0, none⟩), .agg #[.int .i64 kind, .int .i64 pos, .int .u64 (n : Int), .int .i64 num, .slice pa pl pc, .string s]] (w.alloc (.cells #[.int .i64 kind, .int .i64 pos, .int .u64 (n : Int), .int .i64 num, .slice pa pl pc, .string s] 36)).drew.drew (LaysPost (w.alloc (.cells #[.int .i64 kind, .int .i64 pos, .int .u64 (n : Int), .int .i64 num, .slice pa pl pc, .string s] 36)).drew.drew L[r].p L[r].r w0.heap.size L[r].v L[r].u (layW L[r].zs L[r].why (⟨kind, pos, n, num, .slice pa pl pc, ps, s⟩ : OpV))) from lays_any hoi.wr hoi.rw hoi.sp HOk.out HTb.out (by have := HNb.out; omega) HSd.out.size hoi.gp hoi.gr)
  have HFn : Hid (∀ e w', LaysPost (w.alloc (.cells #[.int .i64 kind, .int .i64 pos, .int .u64 (n : Int), .int .i64 num, .slice pa pl pc, .string s] 36)).drew.drew L[r].p L[r].r w0.heap.size L[r].v L[r].u (layW L[r].zs L[r].why (⟨kind, pos, n, num, .slice pa pl pc, ps, s⟩ : OpV)) e w' → ∃ c' y, Ws w0 X c' (L.set r y) w' ∧ y.zs = (layW L[r].zs L[r].why (⟨kind, pos, n, num, .slice pa pl pc, ps, s⟩ : OpV)).1 ∧ y.why = (layW L[r].zs L[r].why (⟨kind, pos, n, num, .slice pa pl pc, ps, s⟩ : OpV)).2 ∧ y.p = L[r].p ∧ y.r = L[r].r) := fun e w' hp => HSd.out.laid hri hp
  generalize hx : L[r] = x at *
  have HXx := Lib.hid hx
  have jr : (r : Int) < (m : Int) := by have := HRi.out; have := HmL.out; omega
  have HTa : Hid (Tg (w.alloc (.cells #[.int .i64 kind, .int .i64 pos, .int .u64 (n : Int), .int .i64 num, .slice pa pl pc, .string s] 36)).drew.drew ga 51) := HM.out.ra.tg ga rfl
  have HTb2 : Hid (Tg (w.alloc (.cells #[.int .i64 kind, .int .i64 pos, .int .u64 (n : Int), .int .i64 num, .slice pa pl pc, .string s] 36)).drew.drew gb 53) := HM.out.rb.tg gb rfl
  have HTX : Hid (Tg (w.alloc (.cells #[.int .i64 kind, .int .i64 pos, .int .u64 (n : Int), .int .i64 num, .slice pa pl pc, .string s] 36)).drew.drew X 31) := by
    obtain ⟨lv, wv, held, E, b, _⟩ := HM.out.rows
    exact ⟨_, b.blk⟩
  have HTo : Hid (Tg (w.alloc (.cells #[.int .i64 kind, .int .i64 pos, .int .u64 (n : Int), .int .i64 num, .slice pa pl pc, .string s] 36)).drew.drew w.heap.size 36) := ⟨_, HX.out⟩
  have HSt : Hid (∀ e w3, LaysPost (w.alloc (.cells #[.int .i64 kind, .int .i64 pos, .int .u64 (n : Int), .int .i64 num, .slice pa pl pc, .string s] 36)).drew.drew x.p x.r w0.heap.size x.v x.u (layW x.zs x.why (⟨kind, pos, n, num, .slice pa pl pc, ps, s⟩ : OpV)) e w3 → (fun w' => w'.cell? ⟨X, 0, none⟩ = some (.slice (some ⟨ga, oa, none⟩) m ac) ∧ w'.cell? ⟨X, 1, none⟩ = some (.slice (some ⟨gb, ob, none⟩) m bc) ∧ w'.cell? ⟨ga, oa + r, none⟩ = some (.pointer (some ⟨x.p, 0, none⟩)) ∧ w'.cell? ⟨gb, ob + r, none⟩ = some (.pointer (some ⟨x.r, 0, none⟩)) ∧ w'.cell? ⟨w.heap.size, 0, none⟩ = some (.int .i64 kind) ∧ w'.cell? ⟨w.heap.size, 1, none⟩ = some (.int .i64 pos) ∧ w'.cell? ⟨w.heap.size, 2, none⟩ = some (.int .u64 (n : Int)) ∧ w'.cell? ⟨w.heap.size, 3, none⟩ = some (.int .i64 num) ∧ w'.cell? ⟨w.heap.size, 4, none⟩ = some (.slice pa pl pc) ∧ w'.cell? ⟨w.heap.size, 5, none⟩ = some (.string s)) w3) := fun e w3 hp =>
    ⟨hp.cell HO.out x0 (HO.out.off HTX.out (by decide) (by decide) (by decide)), hp.cell HO.out x1 (HO.out.off HTX.out (by decide) (by decide) (by decide)), hp.cell HO.out ea (HO.out.off HTa.out (by decide) (by decide) (by decide)), hp.cell HO.out eb (HO.out.off HTb2.out (by decide) (by decide) (by decide)), hp.cell HO.out q0 (HO.out.off HTo.out (by decide) (by decide) (by decide)), hp.cell HO.out q1 (HO.out.off HTo.out (by decide) (by decide) (by decide)), hp.cell HO.out q2 (HO.out.off HTo.out (by decide) (by decide) (by decide)), hp.cell HO.out q3 (HO.out.off HTo.out (by decide) (by decide) (by decide)), hp.cell HO.out q4 (HO.out.off HTo.out (by decide) (by decide) (by decide)), hp.cell HO.out q5 (HO.out.off HTo.out (by decide) (by decide) (by decide))⟩
  clear hri hoi hgr hx
  go_wp2_with fail
  go_region_held3 (fun w' => w'.cell? ⟨X, 0, none⟩ = some (.slice (some ⟨ga, oa, none⟩) m ac) ∧ w'.cell? ⟨X, 1, none⟩ = some (.slice (some ⟨gb, ob, none⟩) m bc) ∧ w'.cell? ⟨ga, oa + r, none⟩ = some (.pointer (some ⟨x.p, 0, none⟩)) ∧ w'.cell? ⟨gb, ob + r, none⟩ = some (.pointer (some ⟨x.r, 0, none⟩)) ∧ w'.cell? ⟨w.heap.size, 0, none⟩ = some (.int .i64 kind) ∧ w'.cell? ⟨w.heap.size, 1, none⟩ = some (.int .i64 pos) ∧ w'.cell? ⟨w.heap.size, 2, none⟩ = some (.int .u64 (n : Int)) ∧ w'.cell? ⟨w.heap.size, 3, none⟩ = some (.int .i64 num) ∧ w'.cell? ⟨w.heap.size, 4, none⟩ = some (.slice pa pl pc) ∧ w'.cell? ⟨w.heap.size, 5, none⟩ = some (.string s)) (first | exact ⟨x0, x1, ea, eb, q0, q1, q2, q3, q4, q5⟩ | exact hS3) (first | (go_at_call 16; refine HLa.out.mono ?_; intro e w3 hp; have hS3 := HSt.out e w3 hp; obtain ⟨he, _⟩ := id hp; subst he; have HP3 := Lib.hid hp; clear hp))
  obtain ⟨c', y, hws, yz, yw, yp, yr⟩ := HFn.out _ _ HP3.out
  obtain ⟨z0, z1, za, zb, _⟩ := hS3
  have HWs := Lib.hid hws
  have hyk := hws.ok r (by rw [List.length_set]; exact HRi.out)
  rw [List.getElem_set_self] at hyk
  have HY := Lib.hid hyk
  have hlen := layW_len x.zs x.why (⟨kind, pos, n, num, .slice pa pl pc, ps, s⟩ : OpV) HPl.out
  have HYg : Hid (y.zs.length ≤ N + 4096 + ps.length + s.size ∧ 0 ≤ y.why ∧ y.why ≤ 12) := by
    have h1 := HGr.out
    refine ⟨?_, ?_, ?_⟩
    · rw [yz]
      have : (layW x.zs x.why (⟨kind, pos, n, num, .slice pa pl pc, ps, s⟩ : OpV)).1.length ≤ x.zs.length + 4096 + ps.length + s.size := hlen
      omega
    · rw [yw]; exact (layW_why _ _ _ h1.2.1 h1.2.2).1
    · rw [yw]; exact (layW_why _ _ _ h1.2.1 h1.2.2).2
  rw [← yp] at za
  rw [← yr] at zb
  have r0 := hyk.rw.cell0
  have r1 := hyk.rw.cell1
  obtain ⟨uo, uc, hu, hu1, hu2, _⟩ := hyk.rw.2.1.sl hyk.rw.2.2.2
  rw [hu] at r0
  have HLn := Lib.hid (len_any (show Wr w3.drew y.p y.v y.zs y.why w0.heap.size from hyk.wr))
  have HEr := Lib.hid (err_any (show Wr w3.drew y.p y.v y.zs y.why w0.heap.size from hyk.wr))
  have hwy : IntKind.i64.wrap y.why = y.why := by have := HYg.out; rw [IntKind.wrap_i64]; omega
  clear hws hyk hlen x0 x1 ea eb q0 q1 q2 q3 q4 q5 HLa HFn HSt HP3 yz yw yp yr hu HX
  go_wp2_with fail
  go_region_held3 (fun w' => w'.cell? ⟨X, 0, none⟩ = some (.slice (some ⟨ga, oa, none⟩) m ac) ∧ w'.cell? ⟨X, 1, none⟩ = some (.slice (some ⟨gb, ob, none⟩) m bc) ∧ w'.cell? ⟨ga, oa + r, none⟩ = some (.pointer (some ⟨y.p, 0, none⟩)) ∧ w'.cell? ⟨gb, ob + r, none⟩ = some (.pointer (some ⟨y.r, 0, none⟩)) ∧ w'.cell? ⟨y.r, 0, none⟩ = some (.slice uo y.zs.length uc) ∧ w'.cell? ⟨y.r, 1, none⟩ = some (.int .i64 y.why)) (exact ⟨z0, z1, za, zb, r0, r1⟩) (first
    | (go_at_call 17; refine HLn.out.mono ?_; rintro e w' ⟨rfl, hw⟩; have hw := hw.symm; subst hw)
    | (go_at_call 18; refine HEr.out.mono ?_; rintro e w' ⟨rfl, hw⟩; have hw := hw.symm; subst hw))
  go_wp2_with fail
  go_ret
  refine ⟨rfl, c', L.set r y, HWs.out.of_below ((Below.refl _ _).drew), List.length_set, fun q hq => ?_⟩
  rcases List.mem_or_eq_of_mem_set hq with hq | rfl
  · have := HG.out q hq
    exact ⟨by omega, this.2⟩
  · exact HYg.out
end Go.Proofs.YtceljnkbkpgdjaaDoor
