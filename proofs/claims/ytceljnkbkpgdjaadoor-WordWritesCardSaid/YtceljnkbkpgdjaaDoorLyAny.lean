/- lays of any step. Own work. -/
import Derived.Test.YtceljnkbkpgdjaaDoorLyByt
namespace Go.Proofs.YtceljnkbkpgdjaaDoor
open Go.RowKit
set_option linter.unusedVariables false
/-- a step of a script, in memory: what it hands in lies below base -/
def OpV.Ok (w : World) (base : Nat) (o : OpV) : Prop := Sl w o.pv o.ps ∧ o.n < 18446744073709551616 ∧ o.ps.length ≤ 2147483647 ∧ o.s.size ≤ 2147483647 ∧ (o.ps ≠ [] → ∀ k, o.pv.ownBlock = some k → k < base)
set_option maxRecDepth 100000 in
set_option maxHeartbeats 2000000 in
theorem lays_none {w : World} {p r base : Nat} {v u : Value} {zs : List Nat} {why : Int} {kind pos num : Int} {n : Nat} {pv : Value} {ps : List Nat} {s : ByteArray} (hw : Wr w p v zs why base) (hr : Rw w r u zs why base) (hs : Sp p v r u) (hsl : Sl w pv ps) (e1 : kind ≠ 1) (e2 : kind ≠ 2) (e3 : kind ≠ 3) (e4 : kind ≠ 4) (e5 : kind ≠ 5) (e6 : kind ≠ 6) (e7 : kind ≠ 7) (e8 : kind ≠ 8) :
    Calls Tryd.prog 16 #[.pointer (some ⟨p, 0, none⟩), .pointer (some ⟨r, 0, none⟩), .agg #[.int .i64 kind, .int .i64 pos, .int .u64 (n : Int), .int .i64 num, pv, .string s]] w (LaysPost w p r base v u (layW zs why ⟨kind, pos, n, num, pv, ps, s⟩)) := by
  have hL : layW zs why ⟨kind, pos, n, num, pv, ps, s⟩ = (zs, why) := by
    unfold layW layF
    simp only [e1, e2, e3, e4, e5, e6, e7, e8, if_false]
    split
    · next h => rw [h]
    · rfl
  rw [hL]
  have HF : Hid (∀ X, LaysPost w p r base v u (zs, why) (.returned (.bool true)) (w.alloc X)) := fun X => ⟨rfl, v, u, hw.keeps (S := fun _ => False) (Keeps.alloc w X) id (fun _ _ => id), hr.keeps (S := fun _ => False) (Keeps.alloc w X) id (fun _ _ => id), Keeps.alloc w X, .inl rfl, .inl rfl, hs⟩
  obtain ⟨pa, pc, hpv⟩ : ∃ a c, pv = .slice a ps.length c := by
    obtain ⟨a, c, e, _⟩ := hsl
    exact ⟨a, c, e⟩
  subst hpv
  have f1 : (kind == 1) = false := by simpa using e1
  have f2 : (kind == 2) = false := by simpa using e2
  have f3 : (kind == 3) = false := by simpa using e3
  have f4 : (kind == 4) = false := by simpa using e4
  have f5 : (kind == 5) = false := by simpa using e5
  have f6 : (kind == 6) = false := by simpa using e6
  have f7 : (kind == 7) = false := by simpa using e7
  have f8 : (kind == 8) = false := by simpa using e8
  clear hw hr hs hsl hL e1 e2 e3 e4 e5 e6 e7 e8
  go_enter Tryd.func16, Tryd.ntmps16
  go_wp2_with fail
  go_ret
  exact HF.out _
theorem lays_any {w : World} {p r base : Nat} {v u : Value} {zs : List Nat} {why : Int} {o : OpV} (hw : Wr w p v zs why base) (hr : Rw w r u zs why base) (hs : Sp p v r u) (ho : o.Ok w base) (ht : Tab w) (hl : zs.length ≤ 549755812888) (hb : base ≤ w.heap.size) (gp : base ≤ p) (gr : base ≤ r) :
    Calls Tryd.prog 16 #[.pointer (some ⟨p, 0, none⟩), .pointer (some ⟨r, 0, none⟩), .agg o.vals] w (LaysPost w p r base v u (layW zs why o)) := by
  obtain ⟨kind, pos, n, num, pv, ps, s⟩ := o
  obtain ⟨h1, h2, h3, h4, h5⟩ := ho
  simp only at h1 h2 h3 h4 h5
  by_cases e1 : kind = 1
  · subst e1
    exact lays_Byte hw hr hs h1 h2 (Nat.le_trans h4 (by decide)) ht hl hb
  by_cases e2 : kind = 2
  · subst e2
    exact lays_Half hw hr hs h1 h2 (Nat.le_trans h4 (by decide)) ht hl hb
  by_cases e3 : kind = 3
  · subst e3
    exact lays_Word hw hr hs h1 h2 (Nat.le_trans h4 (by decide)) ht hl hb
  by_cases e4 : kind = 4
  · subst e4
    exact lays_Long hw hr hs h1 h2 (Nat.le_trans h4 (by decide)) ht hl hb
  by_cases e5 : kind = 5
  · subst e5
    exact lays_bytes hw hr hs h1 h2 (Nat.le_trans h4 (by decide)) ht hl hb h3 h5 gp gr
  by_cases e6 : kind = 6
  · subst e6
    exact lays_Text hw hr hs h1 h2 (Nat.le_trans h4 (by decide)) ht hl hb
  by_cases e7 : kind = 7
  · subst e7
    exact lays_Pad hw hr hs h1 h2 (Nat.le_trans h4 (by decide)) ht hl hb
  by_cases e8 : kind = 8
  · subst e8
    exact lays_Seal hw hr hs h1 h2 (Nat.le_trans h4 (by decide)) ht hl hb
  exact lays_none hw hr hs h1 e1 e2 e3 e4 e5 e6 e7 e8
theorem layF_len (zs : List Nat) (o : OpV) (hn : o.ps.length ≤ 2147483647) : (layF zs o).1.length ≤ zs.length + 4096 + o.ps.length + o.s.size := by
  unfold layF
  have hle := Pl.le_length
  repeat' split
  all_goals simp only [List.length_append, List.length_replicate, hle, sb_length]
  all_goals first
    | omega
    | (next h _ => have := Nat.mod_lt (o.num.toNat - zs.length % o.num.toNat) (show 0 < o.num.toNat by omega); unfold gapN; omega)
    | (next h => have := Nat.mod_lt (o.num.toNat - zs.length % o.num.toNat) (show 0 < o.num.toNat by omega); unfold gapN; omega)
theorem layW_len (zs : List Nat) (why : Int) (o : OpV) (hn : o.ps.length ≤ 2147483647) : (layW zs why o).1.length ≤ zs.length + 4096 + o.ps.length + o.s.size := by
  unfold layW
  split
  · exact layF_len zs o hn
  · show zs.length ≤ _
    omega
end Go.Proofs.YtceljnkbkpgdjaaDoor
