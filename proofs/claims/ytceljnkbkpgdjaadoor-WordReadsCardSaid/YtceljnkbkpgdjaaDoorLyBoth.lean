/- lays: a step on a writer and on the document's. Own work (gen_lyb.py). -/
import Derived.Test.YtceljnkbkpgdjaaDoorOpBoth
namespace Go.Proofs.YtceljnkbkpgdjaaDoor
open Go.RowKit
set_option linter.unusedVariables false
/-- a writer and the document's lie apart -/
structure Sp (p : Nat) (v : Value) (r : Nat) (u : Value) : Prop where
  pr : p ≠ r
  vr : v.ownBlock ≠ some r
  up : u.ownBlock ≠ some p
  vu : ∀ k, v.ownBlock = some k → u.ownBlock ≠ some k
/-- what lays leaves -/
def LaysPost (w : World) (p r base : Nat) (v u : Value) (x : List Nat × Int) (e : Ending) (w' : World) : Prop :=
  e = .returned (.bool true) ∧ ∃ v' u', Wr w' p v' x.1 x.2 base ∧ Rw w' r u' x.1 x.2 base ∧ Keeps (fun k => Foot p v k ∨ Foot r u k) w w' ∧ At w v v' ∧ At w u u' ∧ Sp p v' r u'
theorem RPost.joins {w w0 w1 w2 : World} {p r base : Nat} {v u : Value} {x : List Nat × Int} {zs : List Nat} {why : Int} (hw : Wr w p v zs why base) (hr : Rw w r u zs why base) (hs : Sp p v r u) (k0 : Keeps (fun _ => False) w w0) (h1 : WPost w0 p base v x w1) (h2 : RPost w1 r base u x w2) (e : Ending) (he : e = .returned (.bool true)) : LaysPost w p r base v u x e w2 := by
  obtain ⟨v', a1, a2, a3⟩ := h1
  obtain ⟨u', b1, b2, b3⟩ := h2
  have lp := hw.lt
  have lr := hr.lt
  have lv := hw.2.1.lt
  have lu := hr.2.1.lt
  have s0 := k0.size
  have s1 := a2.size
  have hA : At w v v' := by
    rcases a3 with a3 | ⟨k, a3, a4⟩
    · exact .inl a3
    · exact .inr ⟨k, a3, by omega⟩
  have hB : At w u u' := by
    rcases b3 with b3 | ⟨k, b3, b4⟩
    · exact .inl b3
    · exact .inr ⟨k, b3, by omega⟩
  have n1 : ∀ k, v'.ownBlock = some k → k ≠ r := fun k hk e => by
    subst e
    rcases hA with hA | ⟨k', hA, hl⟩
    · exact hs.vr (hA.symm.trans hk)
    · rw [hA] at hk
      cases hk
      omega
  have n2 : ∀ k, v'.ownBlock = some k → u.ownBlock ≠ some k := fun k hk e => by
    rcases hA with hA | ⟨k', hA, hl⟩
    · exact hs.vu k (hA.symm.trans hk) e
    · rw [hA] at hk
      cases hk
      have := (lu k e).2
      omega
  refine ⟨he, v', u', a1.keeps b2 ?_ ?_, b1, ?_, hA, hB, ⟨hs.pr, fun e => n1 r e rfl, ?_, ?_⟩⟩
  · rintro (e | e)
    · exact hs.pr e
    · exact hs.up e
  · rintro k hk (e | e)
    · exact n1 k hk e
    · exact n2 k hk e
  · exact ((k0.mono (fun _ _ e => e.elim)).trans a2 (fun _ _ e => .inl e)).trans b2 (fun _ _ e => .inr e)
  · intro e
    rcases b3 with b3 | ⟨k, b3, b4⟩
    · exact hs.up (b3.symm.trans e)
    · rw [b3] at e
      cases e
      omega
  · intro k hk e
    rcases b3 with b3 | ⟨k', b3, b4⟩
    · exact n2 k hk (b3.symm.trans e)
    · rw [b3] at e
      cases e
      have := (a1.2.1.lt k hk).2
      omega
set_option maxRecDepth 100000 in
set_option maxHeartbeats 2000000 in
theorem lays_Byte {w : World} {p r base : Nat} {v u : Value} {zs : List Nat} {why : Int} {pos num : Int} {n : Nat} {pv : Value} {ps : List Nat} {s : ByteArray} (hw : Wr w p v zs why base) (hr : Rw w r u zs why base) (hs : Sp p v r u) (hsl : Sl w pv ps) (hn : n < 18446744073709551616) (hS : s.size ≤ 140737488355328) (ht : Tab w) (hl : zs.length ≤ 549755812888) (hb : base ≤ w.heap.size) :
    Calls Tryd.prog 16 #[.pointer (some ⟨p, 0, none⟩), .pointer (some ⟨r, 0, none⟩), .agg #[.int .i64 1, .int .i64 pos, .int .u64 (n : Int), .int .i64 num, pv, .string s]] w (LaysPost w p r base v u (layW zs why ⟨1, pos, n, num, pv, ps, s⟩)) := by
  have HW0 := Lib.hid hw
  have HR0 := Lib.hid hr
  have HS0 := Lib.hid hs
  have hba : Below w.heap.size w (w.alloc (.cells #[.int .i64 1, .int .i64 pos, .int .u64 (n : Int), .int .i64 num, pv, .string s] 36)) := (Below.refl _ _).alloc (Nat.le_refl _) _
  have HK0 : Hid (Keeps (fun _ => False) w (w.alloc (.cells #[.int .i64 1, .int .i64 pos, .int .u64 (n : Int), .int .i64 num, pv, .string s] 36))) := Keeps.alloc w _
  have HW : Hid (Wr (w.alloc (.cells #[.int .i64 1, .int .i64 pos, .int .u64 (n : Int), .int .i64 num, pv, .string s] 36)) p v zs why base) := hw.alloc _
  have hbx : base ≤ (w.alloc (.cells #[.int .i64 1, .int .i64 pos, .int .u64 (n : Int), .int .i64 num, pv, .string s] 36)).heap.size := Nat.le_trans hb hba.size
  have htx : Tab (w.alloc (.cells #[.int .i64 1, .int .i64 pos, .int .u64 (n : Int), .int .i64 num, pv, .string s] 36)) := ht.below hba
  have HC := Lib.hid (show Calls Tryd.prog 31 #[.pointer (some ⟨p, 0, none⟩), .int .u8 ((n : Int) % 256)] (w.alloc (.cells #[.int .i64 1, .int .i64 pos, .int .u64 (n : Int), .int .i64 num, pv, .string s] 36)) fun e w' => e = .returned (.tuple #[]) ∧ WPost (w.alloc (.cells #[.int .i64 1, .int .i64 pos, .int .u64 (n : Int), .int .i64 num, pv, .string s] 36)) p base v (layW zs why ⟨1, pos, n, num, pv, ps, s⟩) w' from by rw [← u8_mod]; exact wByte_lay (pos := pos) (num := num) (pv := pv) (ps := ps) (s := s) HW.out hn (by omega) hbx)
  have HX : Hid ((w.alloc (.cells #[.int .i64 1, .int .i64 pos, .int .u64 (n : Int), .int .i64 num, pv, .string s] 36)).heap[w.heap.size]? = some (.cells #[.int .i64 1, .int .i64 pos, .int .u64 (n : Int), .int .i64 num, pv, .string s] 36 (0, 0))) := heap_alloc_new w _
  have HN : Hid (∀ W W', W = w.alloc (.cells #[.int .i64 1, .int .i64 pos, .int .u64 (n : Int), .int .i64 num, pv, .string s] 36) → WPost W p base v (layW zs why ⟨1, pos, n, num, pv, ps, s⟩) W' → (∀ j x, #[Value.int .i64 1, .int .i64 pos, .int .u64 (n : Int), .int .i64 num, pv, .string s][j]? = some x → W'.cell? ⟨w.heap.size, j, none⟩ = some x) ∧ Calls Tryd.prog 32 #[.pointer (some ⟨r, 0, none⟩), .int .u64 (n : Int), .int .i64 1] W' fun e w' => e = .returned (.tuple #[]) ∧ LaysPost w p r base v u (layW zs why ⟨1, pos, n, num, pv, ps, s⟩) (.returned (.bool true)) w') := by
    rintro W W' rfl hp
    have hpc := hp
    obtain ⟨v', a1, a2, a3⟩ := hp
    have lp := hw.lt
    have lr := hr.lt
    have HR1 : Rw W' r u zs why base := (hr.keeps HK0.out id (fun _ _ => id)).keeps a2 (by
      rintro (e | e)
      · exact hs.pr e.symm
      · exact hs.vr e) (by
      rintro q hq (e | e)
      · exact hs.up (by rw [hq, e])
      · exact hs.vu q e hq)
    have hb1 : base ≤ W'.heap.size := Nat.le_trans hbx a2.size
    refine ⟨fun j x hj => ?_, ?_⟩
    · have hne : ¬ Foot p v w.heap.size := by
        rintro (e | e)
        · omega
        · have := (hw.2.1.lt _ e).2
          omega
      have hbk := (a2.block w.heap.size (by simp) hne).trans HX.out
      rw [cell_of_row _ _ _ _ _ _ hbk]
      exact hj
    · refine (rByte_lay (pos := pos) (num := num) (pv := pv) (ps := ps) (s := s) HR1 hn (by omega) hb1).mono fun e w' hx => ⟨hx.1, ?_⟩
      exact RPost.joins hw hr hs HK0.out hpc hx.2 _ rfl
  have _ := hsl
  obtain ⟨pa, pc, hpv⟩ : ∃ a c, pv = .slice a ps.length c := by
    obtain ⟨a, c, e, _⟩ := hsl
    exact ⟨a, c, e⟩
  subst hpv
  clear hw hr hs hsl ht htx hbx hba hS hn hl
  go_enter Tryd.func16, Tryd.ntmps16
  go_wp2_with fail
  refine HC.out.mono ?_
  rintro e w1 ⟨rfl, h1⟩
  obtain ⟨hcells, hcall⟩ := HN.out _ _ rfl h1
  have c2 := hcells 2 _ rfl
  have c3 := hcells 3 _ rfl
  have c5 := hcells 5 _ rfl
  have HD := Lib.hid hcall
  clear h1 hcells hcall HC HN
  go_wp2_with fail
  refine HD.out.mono ?_
  rintro e w2 ⟨rfl, h2⟩
  have HZ := Lib.hid h2
  clear h2 HD
  go_wp2
  go_ret
  exact HZ.out
set_option maxRecDepth 100000 in
set_option maxHeartbeats 2000000 in
theorem lays_Half {w : World} {p r base : Nat} {v u : Value} {zs : List Nat} {why : Int} {pos num : Int} {n : Nat} {pv : Value} {ps : List Nat} {s : ByteArray} (hw : Wr w p v zs why base) (hr : Rw w r u zs why base) (hs : Sp p v r u) (hsl : Sl w pv ps) (hn : n < 18446744073709551616) (hS : s.size ≤ 140737488355328) (ht : Tab w) (hl : zs.length ≤ 549755812888) (hb : base ≤ w.heap.size) :
    Calls Tryd.prog 16 #[.pointer (some ⟨p, 0, none⟩), .pointer (some ⟨r, 0, none⟩), .agg #[.int .i64 2, .int .i64 pos, .int .u64 (n : Int), .int .i64 num, pv, .string s]] w (LaysPost w p r base v u (layW zs why ⟨2, pos, n, num, pv, ps, s⟩)) := by
  have HW0 := Lib.hid hw
  have HR0 := Lib.hid hr
  have HS0 := Lib.hid hs
  have hba : Below w.heap.size w (w.alloc (.cells #[.int .i64 2, .int .i64 pos, .int .u64 (n : Int), .int .i64 num, pv, .string s] 36)) := (Below.refl _ _).alloc (Nat.le_refl _) _
  have HK0 : Hid (Keeps (fun _ => False) w (w.alloc (.cells #[.int .i64 2, .int .i64 pos, .int .u64 (n : Int), .int .i64 num, pv, .string s] 36))) := Keeps.alloc w _
  have HW : Hid (Wr (w.alloc (.cells #[.int .i64 2, .int .i64 pos, .int .u64 (n : Int), .int .i64 num, pv, .string s] 36)) p v zs why base) := hw.alloc _
  have hbx : base ≤ (w.alloc (.cells #[.int .i64 2, .int .i64 pos, .int .u64 (n : Int), .int .i64 num, pv, .string s] 36)).heap.size := Nat.le_trans hb hba.size
  have htx : Tab (w.alloc (.cells #[.int .i64 2, .int .i64 pos, .int .u64 (n : Int), .int .i64 num, pv, .string s] 36)) := ht.below hba
  have HC := Lib.hid (show Calls Tryd.prog 33 #[.pointer (some ⟨p, 0, none⟩), .int .u16 (IntKind.u16.wrap (n : Int))] (w.alloc (.cells #[.int .i64 2, .int .i64 pos, .int .u64 (n : Int), .int .i64 num, pv, .string s] 36)) fun e w' => e = .returned (.tuple #[]) ∧ WPost (w.alloc (.cells #[.int .i64 2, .int .i64 pos, .int .u64 (n : Int), .int .i64 num, pv, .string s] 36)) p base v (layW zs why ⟨2, pos, n, num, pv, ps, s⟩) w' from by rw [← u16_mod]; exact wHalf_lay (pos := pos) (num := num) (pv := pv) (ps := ps) (s := s) HW.out hn (by omega) hbx)
  have HX : Hid ((w.alloc (.cells #[.int .i64 2, .int .i64 pos, .int .u64 (n : Int), .int .i64 num, pv, .string s] 36)).heap[w.heap.size]? = some (.cells #[.int .i64 2, .int .i64 pos, .int .u64 (n : Int), .int .i64 num, pv, .string s] 36 (0, 0))) := heap_alloc_new w _
  have HN : Hid (∀ W W', W = w.alloc (.cells #[.int .i64 2, .int .i64 pos, .int .u64 (n : Int), .int .i64 num, pv, .string s] 36) → WPost W p base v (layW zs why ⟨2, pos, n, num, pv, ps, s⟩) W' → (∀ j x, #[Value.int .i64 2, .int .i64 pos, .int .u64 (n : Int), .int .i64 num, pv, .string s][j]? = some x → W'.cell? ⟨w.heap.size, j, none⟩ = some x) ∧ Calls Tryd.prog 32 #[.pointer (some ⟨r, 0, none⟩), .int .u64 (n : Int), .int .i64 2] W' fun e w' => e = .returned (.tuple #[]) ∧ LaysPost w p r base v u (layW zs why ⟨2, pos, n, num, pv, ps, s⟩) (.returned (.bool true)) w') := by
    rintro W W' rfl hp
    have hpc := hp
    obtain ⟨v', a1, a2, a3⟩ := hp
    have lp := hw.lt
    have lr := hr.lt
    have HR1 : Rw W' r u zs why base := (hr.keeps HK0.out id (fun _ _ => id)).keeps a2 (by
      rintro (e | e)
      · exact hs.pr e.symm
      · exact hs.vr e) (by
      rintro q hq (e | e)
      · exact hs.up (by rw [hq, e])
      · exact hs.vu q e hq)
    have hb1 : base ≤ W'.heap.size := Nat.le_trans hbx a2.size
    refine ⟨fun j x hj => ?_, ?_⟩
    · have hne : ¬ Foot p v w.heap.size := by
        rintro (e | e)
        · omega
        · have := (hw.2.1.lt _ e).2
          omega
      have hbk := (a2.block w.heap.size (by simp) hne).trans HX.out
      rw [cell_of_row _ _ _ _ _ _ hbk]
      exact hj
    · refine (rHalf_lay (pos := pos) (num := num) (pv := pv) (ps := ps) (s := s) HR1 hn (by omega) hb1).mono fun e w' hx => ⟨hx.1, ?_⟩
      exact RPost.joins hw hr hs HK0.out hpc hx.2 _ rfl
  have _ := hsl
  obtain ⟨pa, pc, hpv⟩ : ∃ a c, pv = .slice a ps.length c := by
    obtain ⟨a, c, e, _⟩ := hsl
    exact ⟨a, c, e⟩
  subst hpv
  clear hw hr hs hsl ht htx hbx hba hS hn hl
  go_enter Tryd.func16, Tryd.ntmps16
  go_wp2_with fail
  refine HC.out.mono ?_
  rintro e w1 ⟨rfl, h1⟩
  obtain ⟨hcells, hcall⟩ := HN.out _ _ rfl h1
  have c2 := hcells 2 _ rfl
  have c3 := hcells 3 _ rfl
  have c5 := hcells 5 _ rfl
  have HD := Lib.hid hcall
  clear h1 hcells hcall HC HN
  go_wp2_with fail
  refine HD.out.mono ?_
  rintro e w2 ⟨rfl, h2⟩
  have HZ := Lib.hid h2
  clear h2 HD
  go_wp2
  go_ret
  exact HZ.out
set_option maxRecDepth 100000 in
set_option maxHeartbeats 2000000 in
theorem lays_Word {w : World} {p r base : Nat} {v u : Value} {zs : List Nat} {why : Int} {pos num : Int} {n : Nat} {pv : Value} {ps : List Nat} {s : ByteArray} (hw : Wr w p v zs why base) (hr : Rw w r u zs why base) (hs : Sp p v r u) (hsl : Sl w pv ps) (hn : n < 18446744073709551616) (hS : s.size ≤ 140737488355328) (ht : Tab w) (hl : zs.length ≤ 549755812888) (hb : base ≤ w.heap.size) :
    Calls Tryd.prog 16 #[.pointer (some ⟨p, 0, none⟩), .pointer (some ⟨r, 0, none⟩), .agg #[.int .i64 3, .int .i64 pos, .int .u64 (n : Int), .int .i64 num, pv, .string s]] w (LaysPost w p r base v u (layW zs why ⟨3, pos, n, num, pv, ps, s⟩)) := by
  have HW0 := Lib.hid hw
  have HR0 := Lib.hid hr
  have HS0 := Lib.hid hs
  have hba : Below w.heap.size w (w.alloc (.cells #[.int .i64 3, .int .i64 pos, .int .u64 (n : Int), .int .i64 num, pv, .string s] 36)) := (Below.refl _ _).alloc (Nat.le_refl _) _
  have HK0 : Hid (Keeps (fun _ => False) w (w.alloc (.cells #[.int .i64 3, .int .i64 pos, .int .u64 (n : Int), .int .i64 num, pv, .string s] 36))) := Keeps.alloc w _
  have HW : Hid (Wr (w.alloc (.cells #[.int .i64 3, .int .i64 pos, .int .u64 (n : Int), .int .i64 num, pv, .string s] 36)) p v zs why base) := hw.alloc _
  have hbx : base ≤ (w.alloc (.cells #[.int .i64 3, .int .i64 pos, .int .u64 (n : Int), .int .i64 num, pv, .string s] 36)).heap.size := Nat.le_trans hb hba.size
  have htx : Tab (w.alloc (.cells #[.int .i64 3, .int .i64 pos, .int .u64 (n : Int), .int .i64 num, pv, .string s] 36)) := ht.below hba
  have HC := Lib.hid (show Calls Tryd.prog 34 #[.pointer (some ⟨p, 0, none⟩), .int .u32 (IntKind.u32.wrap (n : Int))] (w.alloc (.cells #[.int .i64 3, .int .i64 pos, .int .u64 (n : Int), .int .i64 num, pv, .string s] 36)) fun e w' => e = .returned (.tuple #[]) ∧ WPost (w.alloc (.cells #[.int .i64 3, .int .i64 pos, .int .u64 (n : Int), .int .i64 num, pv, .string s] 36)) p base v (layW zs why ⟨3, pos, n, num, pv, ps, s⟩) w' from by rw [← u32_mod]; exact wWord_lay (pos := pos) (num := num) (pv := pv) (ps := ps) (s := s) HW.out hn (by omega) hbx)
  have HX : Hid ((w.alloc (.cells #[.int .i64 3, .int .i64 pos, .int .u64 (n : Int), .int .i64 num, pv, .string s] 36)).heap[w.heap.size]? = some (.cells #[.int .i64 3, .int .i64 pos, .int .u64 (n : Int), .int .i64 num, pv, .string s] 36 (0, 0))) := heap_alloc_new w _
  have HN : Hid (∀ W W', W = w.alloc (.cells #[.int .i64 3, .int .i64 pos, .int .u64 (n : Int), .int .i64 num, pv, .string s] 36) → WPost W p base v (layW zs why ⟨3, pos, n, num, pv, ps, s⟩) W' → (∀ j x, #[Value.int .i64 3, .int .i64 pos, .int .u64 (n : Int), .int .i64 num, pv, .string s][j]? = some x → W'.cell? ⟨w.heap.size, j, none⟩ = some x) ∧ Calls Tryd.prog 32 #[.pointer (some ⟨r, 0, none⟩), .int .u64 (n : Int), .int .i64 4] W' fun e w' => e = .returned (.tuple #[]) ∧ LaysPost w p r base v u (layW zs why ⟨3, pos, n, num, pv, ps, s⟩) (.returned (.bool true)) w') := by
    rintro W W' rfl hp
    have hpc := hp
    obtain ⟨v', a1, a2, a3⟩ := hp
    have lp := hw.lt
    have lr := hr.lt
    have HR1 : Rw W' r u zs why base := (hr.keeps HK0.out id (fun _ _ => id)).keeps a2 (by
      rintro (e | e)
      · exact hs.pr e.symm
      · exact hs.vr e) (by
      rintro q hq (e | e)
      · exact hs.up (by rw [hq, e])
      · exact hs.vu q e hq)
    have hb1 : base ≤ W'.heap.size := Nat.le_trans hbx a2.size
    refine ⟨fun j x hj => ?_, ?_⟩
    · have hne : ¬ Foot p v w.heap.size := by
        rintro (e | e)
        · omega
        · have := (hw.2.1.lt _ e).2
          omega
      have hbk := (a2.block w.heap.size (by simp) hne).trans HX.out
      rw [cell_of_row _ _ _ _ _ _ hbk]
      exact hj
    · refine (rWord_lay (pos := pos) (num := num) (pv := pv) (ps := ps) (s := s) HR1 hn (by omega) hb1).mono fun e w' hx => ⟨hx.1, ?_⟩
      exact RPost.joins hw hr hs HK0.out hpc hx.2 _ rfl
  have _ := hsl
  obtain ⟨pa, pc, hpv⟩ : ∃ a c, pv = .slice a ps.length c := by
    obtain ⟨a, c, e, _⟩ := hsl
    exact ⟨a, c, e⟩
  subst hpv
  clear hw hr hs hsl ht htx hbx hba hS hn hl
  go_enter Tryd.func16, Tryd.ntmps16
  go_wp2_with fail
  refine HC.out.mono ?_
  rintro e w1 ⟨rfl, h1⟩
  obtain ⟨hcells, hcall⟩ := HN.out _ _ rfl h1
  have c2 := hcells 2 _ rfl
  have c3 := hcells 3 _ rfl
  have c5 := hcells 5 _ rfl
  have HD := Lib.hid hcall
  clear h1 hcells hcall HC HN
  go_wp2_with fail
  refine HD.out.mono ?_
  rintro e w2 ⟨rfl, h2⟩
  have HZ := Lib.hid h2
  clear h2 HD
  go_wp2
  go_ret
  exact HZ.out
set_option maxRecDepth 100000 in
set_option maxHeartbeats 2000000 in
theorem lays_Long {w : World} {p r base : Nat} {v u : Value} {zs : List Nat} {why : Int} {pos num : Int} {n : Nat} {pv : Value} {ps : List Nat} {s : ByteArray} (hw : Wr w p v zs why base) (hr : Rw w r u zs why base) (hs : Sp p v r u) (hsl : Sl w pv ps) (hn : n < 18446744073709551616) (hS : s.size ≤ 140737488355328) (ht : Tab w) (hl : zs.length ≤ 549755812888) (hb : base ≤ w.heap.size) :
    Calls Tryd.prog 16 #[.pointer (some ⟨p, 0, none⟩), .pointer (some ⟨r, 0, none⟩), .agg #[.int .i64 4, .int .i64 pos, .int .u64 (n : Int), .int .i64 num, pv, .string s]] w (LaysPost w p r base v u (layW zs why ⟨4, pos, n, num, pv, ps, s⟩)) := by
  have HW0 := Lib.hid hw
  have HR0 := Lib.hid hr
  have HS0 := Lib.hid hs
  have hba : Below w.heap.size w (w.alloc (.cells #[.int .i64 4, .int .i64 pos, .int .u64 (n : Int), .int .i64 num, pv, .string s] 36)) := (Below.refl _ _).alloc (Nat.le_refl _) _
  have HK0 : Hid (Keeps (fun _ => False) w (w.alloc (.cells #[.int .i64 4, .int .i64 pos, .int .u64 (n : Int), .int .i64 num, pv, .string s] 36))) := Keeps.alloc w _
  have HW : Hid (Wr (w.alloc (.cells #[.int .i64 4, .int .i64 pos, .int .u64 (n : Int), .int .i64 num, pv, .string s] 36)) p v zs why base) := hw.alloc _
  have hbx : base ≤ (w.alloc (.cells #[.int .i64 4, .int .i64 pos, .int .u64 (n : Int), .int .i64 num, pv, .string s] 36)).heap.size := Nat.le_trans hb hba.size
  have htx : Tab (w.alloc (.cells #[.int .i64 4, .int .i64 pos, .int .u64 (n : Int), .int .i64 num, pv, .string s] 36)) := ht.below hba
  have HC := Lib.hid (show Calls Tryd.prog 35 #[.pointer (some ⟨p, 0, none⟩), .int .u64 (n : Int)] (w.alloc (.cells #[.int .i64 4, .int .i64 pos, .int .u64 (n : Int), .int .i64 num, pv, .string s] 36)) fun e w' => e = .returned (.tuple #[]) ∧ WPost (w.alloc (.cells #[.int .i64 4, .int .i64 pos, .int .u64 (n : Int), .int .i64 num, pv, .string s] 36)) p base v (layW zs why ⟨4, pos, n, num, pv, ps, s⟩) w' from wLong_lay (pos := pos) (num := num) (pv := pv) (ps := ps) (s := s) HW.out hn (by omega) hbx)
  have HX : Hid ((w.alloc (.cells #[.int .i64 4, .int .i64 pos, .int .u64 (n : Int), .int .i64 num, pv, .string s] 36)).heap[w.heap.size]? = some (.cells #[.int .i64 4, .int .i64 pos, .int .u64 (n : Int), .int .i64 num, pv, .string s] 36 (0, 0))) := heap_alloc_new w _
  have HN : Hid (∀ W W', W = w.alloc (.cells #[.int .i64 4, .int .i64 pos, .int .u64 (n : Int), .int .i64 num, pv, .string s] 36) → WPost W p base v (layW zs why ⟨4, pos, n, num, pv, ps, s⟩) W' → (∀ j x, #[Value.int .i64 4, .int .i64 pos, .int .u64 (n : Int), .int .i64 num, pv, .string s][j]? = some x → W'.cell? ⟨w.heap.size, j, none⟩ = some x) ∧ Calls Tryd.prog 32 #[.pointer (some ⟨r, 0, none⟩), .int .u64 (n : Int), .int .i64 8] W' fun e w' => e = .returned (.tuple #[]) ∧ LaysPost w p r base v u (layW zs why ⟨4, pos, n, num, pv, ps, s⟩) (.returned (.bool true)) w') := by
    rintro W W' rfl hp
    have hpc := hp
    obtain ⟨v', a1, a2, a3⟩ := hp
    have lp := hw.lt
    have lr := hr.lt
    have HR1 : Rw W' r u zs why base := (hr.keeps HK0.out id (fun _ _ => id)).keeps a2 (by
      rintro (e | e)
      · exact hs.pr e.symm
      · exact hs.vr e) (by
      rintro q hq (e | e)
      · exact hs.up (by rw [hq, e])
      · exact hs.vu q e hq)
    have hb1 : base ≤ W'.heap.size := Nat.le_trans hbx a2.size
    refine ⟨fun j x hj => ?_, ?_⟩
    · have hne : ¬ Foot p v w.heap.size := by
        rintro (e | e)
        · omega
        · have := (hw.2.1.lt _ e).2
          omega
      have hbk := (a2.block w.heap.size (by simp) hne).trans HX.out
      rw [cell_of_row _ _ _ _ _ _ hbk]
      exact hj
    · refine (rLong_lay (pos := pos) (num := num) (pv := pv) (ps := ps) (s := s) HR1 hn (by omega) hb1).mono fun e w' hx => ⟨hx.1, ?_⟩
      exact RPost.joins hw hr hs HK0.out hpc hx.2 _ rfl
  have _ := hsl
  obtain ⟨pa, pc, hpv⟩ : ∃ a c, pv = .slice a ps.length c := by
    obtain ⟨a, c, e, _⟩ := hsl
    exact ⟨a, c, e⟩
  subst hpv
  clear hw hr hs hsl ht htx hbx hba hS hn hl
  go_enter Tryd.func16, Tryd.ntmps16
  go_wp2_with fail
  refine HC.out.mono ?_
  rintro e w1 ⟨rfl, h1⟩
  obtain ⟨hcells, hcall⟩ := HN.out _ _ rfl h1
  have c2 := hcells 2 _ rfl
  have c3 := hcells 3 _ rfl
  have c5 := hcells 5 _ rfl
  have HD := Lib.hid hcall
  clear h1 hcells hcall HC HN
  go_wp2_with fail
  refine HD.out.mono ?_
  rintro e w2 ⟨rfl, h2⟩
  have HZ := Lib.hid h2
  clear h2 HD
  go_wp2
  go_ret
  exact HZ.out
set_option maxRecDepth 100000 in
set_option maxHeartbeats 2000000 in
theorem lays_Text {w : World} {p r base : Nat} {v u : Value} {zs : List Nat} {why : Int} {pos num : Int} {n : Nat} {pv : Value} {ps : List Nat} {s : ByteArray} (hw : Wr w p v zs why base) (hr : Rw w r u zs why base) (hs : Sp p v r u) (hsl : Sl w pv ps) (hn : n < 18446744073709551616) (hS : s.size ≤ 140737488355328) (ht : Tab w) (hl : zs.length ≤ 549755812888) (hb : base ≤ w.heap.size) :
    Calls Tryd.prog 16 #[.pointer (some ⟨p, 0, none⟩), .pointer (some ⟨r, 0, none⟩), .agg #[.int .i64 6, .int .i64 pos, .int .u64 (n : Int), .int .i64 num, pv, .string s]] w (LaysPost w p r base v u (layW zs why ⟨6, pos, n, num, pv, ps, s⟩)) := by
  have HW0 := Lib.hid hw
  have HR0 := Lib.hid hr
  have HS0 := Lib.hid hs
  have hba : Below w.heap.size w (w.alloc (.cells #[.int .i64 6, .int .i64 pos, .int .u64 (n : Int), .int .i64 num, pv, .string s] 36)) := (Below.refl _ _).alloc (Nat.le_refl _) _
  have HK0 : Hid (Keeps (fun _ => False) w (w.alloc (.cells #[.int .i64 6, .int .i64 pos, .int .u64 (n : Int), .int .i64 num, pv, .string s] 36))) := Keeps.alloc w _
  have HW : Hid (Wr (w.alloc (.cells #[.int .i64 6, .int .i64 pos, .int .u64 (n : Int), .int .i64 num, pv, .string s] 36)) p v zs why base) := hw.alloc _
  have hbx : base ≤ (w.alloc (.cells #[.int .i64 6, .int .i64 pos, .int .u64 (n : Int), .int .i64 num, pv, .string s] 36)).heap.size := Nat.le_trans hb hba.size
  have htx : Tab (w.alloc (.cells #[.int .i64 6, .int .i64 pos, .int .u64 (n : Int), .int .i64 num, pv, .string s] 36)) := ht.below hba
  have HC := Lib.hid (show Calls Tryd.prog 38 #[.pointer (some ⟨p, 0, none⟩), .string s] (w.alloc (.cells #[.int .i64 6, .int .i64 pos, .int .u64 (n : Int), .int .i64 num, pv, .string s] 36)) fun e w' => e = .returned (.tuple #[]) ∧ WPost (w.alloc (.cells #[.int .i64 6, .int .i64 pos, .int .u64 (n : Int), .int .i64 num, pv, .string s] 36)) p base v (layW zs why ⟨6, pos, n, num, pv, ps, s⟩) w' from wText_lay (pos := pos) (n := n) (num := num) (pv := pv) (ps := ps) HW.out hl hbx)
  have HX : Hid ((w.alloc (.cells #[.int .i64 6, .int .i64 pos, .int .u64 (n : Int), .int .i64 num, pv, .string s] 36)).heap[w.heap.size]? = some (.cells #[.int .i64 6, .int .i64 pos, .int .u64 (n : Int), .int .i64 num, pv, .string s] 36 (0, 0))) := heap_alloc_new w _
  have HN : Hid (∀ W W', W = w.alloc (.cells #[.int .i64 6, .int .i64 pos, .int .u64 (n : Int), .int .i64 num, pv, .string s] 36) → WPost W p base v (layW zs why ⟨6, pos, n, num, pv, ps, s⟩) W' → (∀ j x, #[Value.int .i64 6, .int .i64 pos, .int .u64 (n : Int), .int .i64 num, pv, .string s][j]? = some x → W'.cell? ⟨w.heap.size, j, none⟩ = some x) ∧ Calls Tryd.prog 39 #[.pointer (some ⟨r, 0, none⟩), .string s] W' fun e w' => e = .returned (.tuple #[]) ∧ LaysPost w p r base v u (layW zs why ⟨6, pos, n, num, pv, ps, s⟩) (.returned (.bool true)) w') := by
    rintro W W' rfl hp
    have hpc := hp
    obtain ⟨v', a1, a2, a3⟩ := hp
    have lp := hw.lt
    have lr := hr.lt
    have HR1 : Rw W' r u zs why base := (hr.keeps HK0.out id (fun _ _ => id)).keeps a2 (by
      rintro (e | e)
      · exact hs.pr e.symm
      · exact hs.vr e) (by
      rintro q hq (e | e)
      · exact hs.up (by rw [hq, e])
      · exact hs.vu q e hq)
    have hb1 : base ≤ W'.heap.size := Nat.le_trans hbx a2.size
    refine ⟨fun j x hj => ?_, ?_⟩
    · have hne : ¬ Foot p v w.heap.size := by
        rintro (e | e)
        · omega
        · have := (hw.2.1.lt _ e).2
          omega
      have hbk := (a2.block w.heap.size (by simp) hne).trans HX.out
      rw [cell_of_row _ _ _ _ _ _ hbk]
      exact hj
    · refine (rText_lay (pos := pos) (n := n) (num := num) (pv := pv) (ps := ps) HR1 hS hl hb1).mono fun e w' hx => ⟨hx.1, ?_⟩
      exact RPost.joins hw hr hs HK0.out hpc hx.2 _ rfl
  have _ := hsl
  obtain ⟨pa, pc, hpv⟩ : ∃ a c, pv = .slice a ps.length c := by
    obtain ⟨a, c, e, _⟩ := hsl
    exact ⟨a, c, e⟩
  subst hpv
  clear hw hr hs hsl ht htx hbx hba hS hn hl
  go_enter Tryd.func16, Tryd.ntmps16
  go_wp2_with fail
  refine HC.out.mono ?_
  rintro e w1 ⟨rfl, h1⟩
  obtain ⟨hcells, hcall⟩ := HN.out _ _ rfl h1
  have c2 := hcells 2 _ rfl
  have c3 := hcells 3 _ rfl
  have c5 := hcells 5 _ rfl
  have HD := Lib.hid hcall
  clear h1 hcells hcall HC HN
  go_wp2_with fail
  refine HD.out.mono ?_
  rintro e w2 ⟨rfl, h2⟩
  have HZ := Lib.hid h2
  clear h2 HD
  go_wp2
  go_ret
  exact HZ.out
set_option maxRecDepth 100000 in
set_option maxHeartbeats 2000000 in
theorem lays_Pad {w : World} {p r base : Nat} {v u : Value} {zs : List Nat} {why : Int} {pos num : Int} {n : Nat} {pv : Value} {ps : List Nat} {s : ByteArray} (hw : Wr w p v zs why base) (hr : Rw w r u zs why base) (hs : Sp p v r u) (hsl : Sl w pv ps) (hn : n < 18446744073709551616) (hS : s.size ≤ 140737488355328) (ht : Tab w) (hl : zs.length ≤ 549755812888) (hb : base ≤ w.heap.size) :
    Calls Tryd.prog 16 #[.pointer (some ⟨p, 0, none⟩), .pointer (some ⟨r, 0, none⟩), .agg #[.int .i64 7, .int .i64 pos, .int .u64 (n : Int), .int .i64 num, pv, .string s]] w (LaysPost w p r base v u (layW zs why ⟨7, pos, n, num, pv, ps, s⟩)) := by
  have HW0 := Lib.hid hw
  have HR0 := Lib.hid hr
  have HS0 := Lib.hid hs
  have hba : Below w.heap.size w (w.alloc (.cells #[.int .i64 7, .int .i64 pos, .int .u64 (n : Int), .int .i64 num, pv, .string s] 36)) := (Below.refl _ _).alloc (Nat.le_refl _) _
  have HK0 : Hid (Keeps (fun _ => False) w (w.alloc (.cells #[.int .i64 7, .int .i64 pos, .int .u64 (n : Int), .int .i64 num, pv, .string s] 36))) := Keeps.alloc w _
  have HW : Hid (Wr (w.alloc (.cells #[.int .i64 7, .int .i64 pos, .int .u64 (n : Int), .int .i64 num, pv, .string s] 36)) p v zs why base) := hw.alloc _
  have hbx : base ≤ (w.alloc (.cells #[.int .i64 7, .int .i64 pos, .int .u64 (n : Int), .int .i64 num, pv, .string s] 36)).heap.size := Nat.le_trans hb hba.size
  have htx : Tab (w.alloc (.cells #[.int .i64 7, .int .i64 pos, .int .u64 (n : Int), .int .i64 num, pv, .string s] 36)) := ht.below hba
  have HC := Lib.hid (show Calls Tryd.prog 40 #[.pointer (some ⟨p, 0, none⟩), .int .i64 num] (w.alloc (.cells #[.int .i64 7, .int .i64 pos, .int .u64 (n : Int), .int .i64 num, pv, .string s] 36)) fun e w' => e = .returned (.tuple #[]) ∧ WPost (w.alloc (.cells #[.int .i64 7, .int .i64 pos, .int .u64 (n : Int), .int .i64 num, pv, .string s] 36)) p base v (layW zs why ⟨7, pos, n, num, pv, ps, s⟩) w' from wPad_lay (pos := pos) (n := n) (pv := pv) (ps := ps) (s := s) HW.out (by omega) hbx)
  have HX : Hid ((w.alloc (.cells #[.int .i64 7, .int .i64 pos, .int .u64 (n : Int), .int .i64 num, pv, .string s] 36)).heap[w.heap.size]? = some (.cells #[.int .i64 7, .int .i64 pos, .int .u64 (n : Int), .int .i64 num, pv, .string s] 36 (0, 0))) := heap_alloc_new w _
  have HN : Hid (∀ W W', W = w.alloc (.cells #[.int .i64 7, .int .i64 pos, .int .u64 (n : Int), .int .i64 num, pv, .string s] 36) → WPost W p base v (layW zs why ⟨7, pos, n, num, pv, ps, s⟩) W' → (∀ j x, #[Value.int .i64 7, .int .i64 pos, .int .u64 (n : Int), .int .i64 num, pv, .string s][j]? = some x → W'.cell? ⟨w.heap.size, j, none⟩ = some x) ∧ Calls Tryd.prog 41 #[.pointer (some ⟨r, 0, none⟩), .int .i64 num] W' fun e w' => e = .returned (.tuple #[]) ∧ LaysPost w p r base v u (layW zs why ⟨7, pos, n, num, pv, ps, s⟩) (.returned (.bool true)) w') := by
    rintro W W' rfl hp
    have hpc := hp
    obtain ⟨v', a1, a2, a3⟩ := hp
    have lp := hw.lt
    have lr := hr.lt
    have HR1 : Rw W' r u zs why base := (hr.keeps HK0.out id (fun _ _ => id)).keeps a2 (by
      rintro (e | e)
      · exact hs.pr e.symm
      · exact hs.vr e) (by
      rintro q hq (e | e)
      · exact hs.up (by rw [hq, e])
      · exact hs.vu q e hq)
    have hb1 : base ≤ W'.heap.size := Nat.le_trans hbx a2.size
    refine ⟨fun j x hj => ?_, ?_⟩
    · have hne : ¬ Foot p v w.heap.size := by
        rintro (e | e)
        · omega
        · have := (hw.2.1.lt _ e).2
          omega
      have hbk := (a2.block w.heap.size (by simp) hne).trans HX.out
      rw [cell_of_row _ _ _ _ _ _ hbk]
      exact hj
    · refine (rPad_lay (pos := pos) (n := n) (pv := pv) (ps := ps) (s := s) HR1 (by omega) hb1).mono fun e w' hx => ⟨hx.1, ?_⟩
      exact RPost.joins hw hr hs HK0.out hpc hx.2 _ rfl
  have _ := hsl
  obtain ⟨pa, pc, hpv⟩ : ∃ a c, pv = .slice a ps.length c := by
    obtain ⟨a, c, e, _⟩ := hsl
    exact ⟨a, c, e⟩
  subst hpv
  clear hw hr hs hsl ht htx hbx hba hS hn hl
  go_enter Tryd.func16, Tryd.ntmps16
  go_wp2_with fail
  refine HC.out.mono ?_
  rintro e w1 ⟨rfl, h1⟩
  obtain ⟨hcells, hcall⟩ := HN.out _ _ rfl h1
  have c2 := hcells 2 _ rfl
  have c3 := hcells 3 _ rfl
  have c5 := hcells 5 _ rfl
  have HD := Lib.hid hcall
  clear h1 hcells hcall HC HN
  go_wp2_with fail
  refine HD.out.mono ?_
  rintro e w2 ⟨rfl, h2⟩
  have HZ := Lib.hid h2
  clear h2 HD
  go_wp2
  go_ret
  exact HZ.out
set_option maxRecDepth 100000 in
set_option maxHeartbeats 2000000 in
theorem lays_Seal {w : World} {p r base : Nat} {v u : Value} {zs : List Nat} {why : Int} {pos num : Int} {n : Nat} {pv : Value} {ps : List Nat} {s : ByteArray} (hw : Wr w p v zs why base) (hr : Rw w r u zs why base) (hs : Sp p v r u) (hsl : Sl w pv ps) (hn : n < 18446744073709551616) (hS : s.size ≤ 140737488355328) (ht : Tab w) (hl : zs.length ≤ 549755812888) (hb : base ≤ w.heap.size) :
    Calls Tryd.prog 16 #[.pointer (some ⟨p, 0, none⟩), .pointer (some ⟨r, 0, none⟩), .agg #[.int .i64 8, .int .i64 pos, .int .u64 (n : Int), .int .i64 num, pv, .string s]] w (LaysPost w p r base v u (layW zs why ⟨8, pos, n, num, pv, ps, s⟩)) := by
  have HW0 := Lib.hid hw
  have HR0 := Lib.hid hr
  have HS0 := Lib.hid hs
  have hba : Below w.heap.size w (w.alloc (.cells #[.int .i64 8, .int .i64 pos, .int .u64 (n : Int), .int .i64 num, pv, .string s] 36)) := (Below.refl _ _).alloc (Nat.le_refl _) _
  have HK0 : Hid (Keeps (fun _ => False) w (w.alloc (.cells #[.int .i64 8, .int .i64 pos, .int .u64 (n : Int), .int .i64 num, pv, .string s] 36))) := Keeps.alloc w _
  have HW : Hid (Wr (w.alloc (.cells #[.int .i64 8, .int .i64 pos, .int .u64 (n : Int), .int .i64 num, pv, .string s] 36)) p v zs why base) := hw.alloc _
  have hbx : base ≤ (w.alloc (.cells #[.int .i64 8, .int .i64 pos, .int .u64 (n : Int), .int .i64 num, pv, .string s] 36)).heap.size := Nat.le_trans hb hba.size
  have htx : Tab (w.alloc (.cells #[.int .i64 8, .int .i64 pos, .int .u64 (n : Int), .int .i64 num, pv, .string s] 36)) := ht.below hba
  have HC := Lib.hid (show Calls Tryd.prog 42 #[.pointer (some ⟨p, 0, none⟩), .int .i64 num] (w.alloc (.cells #[.int .i64 8, .int .i64 pos, .int .u64 (n : Int), .int .i64 num, pv, .string s] 36)) fun e w' => e = .returned (.tuple #[]) ∧ WPost (w.alloc (.cells #[.int .i64 8, .int .i64 pos, .int .u64 (n : Int), .int .i64 num, pv, .string s] 36)) p base v (layW zs why ⟨8, pos, n, num, pv, ps, s⟩) w' from wSeal_lay (pos := pos) (n := n) (pv := pv) (ps := ps) (s := s) htx HW.out (by omega) hbx)
  have HX : Hid ((w.alloc (.cells #[.int .i64 8, .int .i64 pos, .int .u64 (n : Int), .int .i64 num, pv, .string s] 36)).heap[w.heap.size]? = some (.cells #[.int .i64 8, .int .i64 pos, .int .u64 (n : Int), .int .i64 num, pv, .string s] 36 (0, 0))) := heap_alloc_new w _
  have HN : Hid (∀ W W', W = w.alloc (.cells #[.int .i64 8, .int .i64 pos, .int .u64 (n : Int), .int .i64 num, pv, .string s] 36) → WPost W p base v (layW zs why ⟨8, pos, n, num, pv, ps, s⟩) W' → (∀ j x, #[Value.int .i64 8, .int .i64 pos, .int .u64 (n : Int), .int .i64 num, pv, .string s][j]? = some x → W'.cell? ⟨w.heap.size, j, none⟩ = some x) ∧ Calls Tryd.prog 43 #[.pointer (some ⟨r, 0, none⟩), .int .i64 num] W' fun e w' => e = .returned (.tuple #[]) ∧ LaysPost w p r base v u (layW zs why ⟨8, pos, n, num, pv, ps, s⟩) (.returned (.bool true)) w') := by
    rintro W W' rfl hp
    have hpc := hp
    obtain ⟨v', a1, a2, a3⟩ := hp
    have lp := hw.lt
    have lr := hr.lt
    have HR1 : Rw W' r u zs why base := (hr.keeps HK0.out id (fun _ _ => id)).keeps a2 (by
      rintro (e | e)
      · exact hs.pr e.symm
      · exact hs.vr e) (by
      rintro q hq (e | e)
      · exact hs.up (by rw [hq, e])
      · exact hs.vu q e hq)
    have hb1 : base ≤ W'.heap.size := Nat.le_trans hbx a2.size
    refine ⟨fun j x hj => ?_, ?_⟩
    · have hne : ¬ Foot p v w.heap.size := by
        rintro (e | e)
        · omega
        · have := (hw.2.1.lt _ e).2
          omega
      have hbk := (a2.block w.heap.size (by simp) hne).trans HX.out
      rw [cell_of_row _ _ _ _ _ _ hbk]
      exact hj
    · refine (rSeal_lay (pos := pos) (n := n) (pv := pv) (ps := ps) (s := s) HR1 (by omega) hb1).mono fun e w' hx => ⟨hx.1, ?_⟩
      exact RPost.joins hw hr hs HK0.out hpc hx.2 _ rfl
  have _ := hsl
  obtain ⟨pa, pc, hpv⟩ : ∃ a c, pv = .slice a ps.length c := by
    obtain ⟨a, c, e, _⟩ := hsl
    exact ⟨a, c, e⟩
  subst hpv
  clear hw hr hs hsl ht htx hbx hba hS hn hl
  go_enter Tryd.func16, Tryd.ntmps16
  go_wp2_with fail
  refine HC.out.mono ?_
  rintro e w1 ⟨rfl, h1⟩
  obtain ⟨hcells, hcall⟩ := HN.out _ _ rfl h1
  have c2 := hcells 2 _ rfl
  have c3 := hcells 3 _ rfl
  have c5 := hcells 5 _ rfl
  have HD := Lib.hid hcall
  clear h1 hcells hcall HC HN
  go_wp2_with fail
  refine HD.out.mono ?_
  rintro e w2 ⟨rfl, h2⟩
  have HZ := Lib.hid h2
  clear h2 HD
  go_wp2
  go_ret
  exact HZ.out
end Go.Proofs.YtceljnkbkpgdjaaDoor
