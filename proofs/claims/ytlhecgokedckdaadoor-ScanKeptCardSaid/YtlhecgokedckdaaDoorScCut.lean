/- Scan: a cutter in memory; ahead, stands. -/
import Derived.Test.YtlhecgokedckdaaDoorScRes
namespace Go.Proofs.YtlhecgokedckdaaDoor
open Go.RowKit
/-- a cutter in block p: its bytes, its place, its list -/
def CutB (w : World) (p : Nat) (v : Value) (a : Nat) (lv : Value) : Prop := w.heap[p]? = some (.cells #[v, .int .i64 (a : Int), lv] 51 (0, 0))
theorem CutB.lt {w : World} {p : Nat} {v : Value} {a : Nat} {lv : Value} (h : CutB w p v a lv) : p < w.heap.size := (Array.getElem?_eq_some_iff.1 h).1
theorem CutB.cell0 {w : World} {p : Nat} {v : Value} {a : Nat} {lv : Value} (h : CutB w p v a lv) : w.cell? ⟨p, 0, none⟩ = some v := by
  rw [cell_of_row w p 0 _ _ _ h]; rfl
theorem CutB.cell1 {w : World} {p : Nat} {v : Value} {a : Nat} {lv : Value} (h : CutB w p v a lv) : w.cell? ⟨p, 1, none⟩ = some (.int .i64 (a : Int)) := by
  rw [cell_of_row w p 1 _ _ _ h]; rfl
theorem CutB.cell2 {w : World} {p : Nat} {v : Value} {a : Nat} {lv : Value} (h : CutB w p v a lv) : w.cell? ⟨p, 2, none⟩ = some lv := by
  rw [cell_of_row w p 2 _ _ _ h]; rfl
theorem CutB.thawed {w : World} {p : Nat} {v : Value} {a : Nat} {lv : Value} (h : CutB w p v a lv) (i : Nat) : w.frozen? ⟨p, i, none⟩ = false := by
  simp [World.frozen?, show w.heap[p]? = _ from h]
theorem CutB.keeps {S : Nat → Prop} {w w' : World} {p : Nat} {v : Value} {a : Nat} {lv : Value} (h : CutB w p v a lv) (hk : Keeps S w w') (hn : ¬ S p) : CutB w' p v a lv := (hk.block p h.lt hn).trans h
theorem CutB.below {w w' : World} {p : Nat} {v : Value} {a : Nat} {lv : Value} (h : CutB w p v a lv) (hb : Below w.heap.size w w') : CutB w' p v a lv := (hb.block p h.lt).trans h
theorem CutB.move {w : World} {p : Nat} {v : Value} {a : Nat} {lv : Value} (h : CutB w p v a lv) (b : Nat) : CutB (w.setCell ⟨p, 1, none⟩ (.int .i64 (b : Int))) p v b lv := by
  have h' : w.heap[p]? = _ := h
  simp [CutB, World.setCell, Array.getElem?_modify, h']
theorem CutB.list {w : World} {p : Nat} {v : Value} {a : Nat} {lv : Value} (h : CutB w p v a lv) (lv' : Value) : CutB (w.setCell ⟨p, 2, none⟩ lv') p v a lv' := by
  have h' : w.heap[p]? = _ := h
  simp [CutB, World.setCell, Array.getElem?_modify, h']
theorem Sl.len {w : World} {v : Value} {zs : List Nat} (h : Sl w v zs) : zs.length ≤ maxLen := by
  obtain ⟨_, _, _, h1, h2, _⟩ := h
  omega
theorem bdn {B : Nat} {a w : World} (h : Below B a w) (n : Nat) : Below B a (w.drewN n) := ⟨h.os, h.tape, h.output, h.size, h.block⟩
set_option maxHeartbeats 1000000 in
theorem ahead_any {w : World} {p : Nat} {v : Value} {a : Nat} {lv : Value} {zs : List Nat} (h : CutB w p v a lv) (hs : Sl w v zs) : Calls Tryd.prog 31 #[.pointer (some ⟨p, 0, none⟩)] w fun e w' => e = .returned (.int .u8 (zs.getD a 0 : Nat)) ∧ Below w.heap.size w w' := by
  have c0 := h.cell0
  have c1 := h.cell1
  have hlen := hs.len
  unfold maxLen at hlen
  by_cases hlt : a < zs.length
  · obtain ⟨b, o, cap, rfl, h1, h2, h3, h4⟩ := hs.pos (by omega)
    have hc := h4 a hlt
    generalize zs.getD a 0 = z at *
    have i1 : (a : Int) < (zs.length : Int) := by omega
    clear h4 h3 hs h
    go_enter Tryd.func31, Tryd.ntmps31
    go_wp2
    go_quiet (fail)
    go_wp2
    go_quiet (fail)
    go_wp2
    go_ret
    exact ⟨rfl, bdn (bdn (Below.refl _ _) _) _⟩
  · have e : zs.getD a 0 = 0 := by rw [List.getD_eq_getElem?_getD, List.getElem?_eq_none (by omega)]; rfl
    rw [e]
    obtain ⟨ao, cap, rfl, _⟩ := hs
    clear e h
    go_enter Tryd.func31, Tryd.ntmps31
    go_wp2
    go_quiet (fail)
    go_wp2
    go_ret
    exact ⟨rfl, bdn (Below.refl _ _) _⟩
theorem sb_get (s : ByteArray) (k : Nat) (h : k < s.size) : (sb s).getD k 0 = s[k].toNat := by
  have h' : k < s.data.toList.length := by simpa using h
  unfold sb
  rw [List.getD_eq_getElem?_getD, List.getElem?_map, List.getElem?_eq_getElem h']
  rfl
theorem Sc.pre_step {zs ts : List Nat} {a k : Nat} (h : (zs.drop a).take k = ts.take k) (hk : k < ts.length) (hz : a + k < zs.length) (e : zs.getD (a + k) 0 = ts.getD k 0) : (zs.drop a).take (k + 1) = ts.take (k + 1) := by
  rw [List.take_succ_eq_append_getElem hk, List.take_succ_eq_append_getElem (by simp; omega), h]
  rw [List.getD_eq_getElem?_getD, List.getD_eq_getElem?_getD, List.getElem?_eq_getElem hz, List.getElem?_eq_getElem hk] at e
  have e' : zs[a + k] = ts[k] := e
  rw [List.getElem_drop, e']
theorem Sc.pre_get {zs ts : List Nat} {a k : Nat} (h : (zs.drop a).take ts.length = ts) (hk : k < ts.length) : zs.getD (a + k) 0 = ts.getD k 0 := by
  conv => rhs; rw [← h]
  simp only [List.getD_eq_getElem?_getD, List.getElem?_take, List.getElem?_drop]
  rw [if_pos hk]
set_option maxHeartbeats 1000000 in
theorem stands_any {w : World} {p : Nat} {v : Value} {a : Nat} {lv : Value} {zs : List Nat} (h : CutB w p v a lv) (hs : Sl w v zs) (ha : a ≤ zs.length) (s : ByteArray) (hsz : s.size ≤ 1000) :
    Calls Tryd.prog 47 #[.pointer (some ⟨p, 0, none⟩), .string s] w fun e w' => e = .returned (.bool (decide ((zs.drop a).take (sb s).length = sb s))) ∧ Below w.heap.size w w' := by
  have c0 := h.cell0
  have c1 := h.cell1
  have hlen := hs.len
  unfold maxLen at hlen
  have hl := sb_length s
  by_cases hlt : s.size ≤ zs.length - a
  · by_cases hp : 0 < s.size
    · obtain ⟨b, o, cap, rfl, h1, h2, h3, h4⟩ := hs.pos (by omega)
      have HC : Hid (∀ i, i < zs.length → w.cell? ⟨b, o + i, none⟩ = some (.int .u8 (zs.getD i 0 : Nat))) := h4
      have HL : Hid ((sb s).length = s.size) := hl
      clear h4 h3 hs h hl
      go_enter Tryd.func47, Tryd.ntmps47
      go_wp2
      go_quiet (fail)
      go_wp2
      have HC0 : Hid (w.cell? ⟨p, 0, none⟩ = some (.slice (some ⟨b, o, none⟩) zs.length cap)) := c0
      have HC1 : Hid (w.cell? ⟨p, 1, none⟩ = some (.int .i64 (a : Int))) := c1
      clear c0 c1
      go_loopw [5, 21] (fun _ i wr => ∃ k : Nat, k ≤ s.size ∧ i = .int .i64 k ∧ Hid ((zs.drop a).take k = (sb s).take k) ∧ Hid (Below w.heap.size w wr)) (fun _ i _ => s.size - (intOf i).toNat)
      case atStart => exact ⟨0, by omega, rfl, rfl, bdn (Below.refl _ _) _⟩
      case round =>
        obtain ⟨k, hk, rfl, HF, HB⟩ := hrel
        by_cases hkl : k < s.size
        · have c0 := (HB.out.cell (p := ⟨p, 0, none⟩) (World.block_lt_of_cell? w _ HC0.out)).trans HC0.out
          have c1 := (HB.out.cell (p := ⟨p, 1, none⟩) (World.block_lt_of_cell? w _ HC1.out)).trans HC1.out
          have hc0 := HC.out (a + k) (by omega)
          have hc := (HB.out.cell (p := ⟨b, o + (a + k), none⟩) (World.block_lt_of_cell? w _ hc0)).trans hc0
          have i1 : (a : Int) + (k : Int) < (zs.length : Int) := by omega
          have i2 : (k : Int) < (s.size : Int) := by omega
          clear hc0
          go_wp2
          go_quiet (fail)
          go_wp2
          · rename_i hne
            go_ret
            refine ⟨ret_bool (decide_eq_false fun e => ?_).symm, bdn HB.out _⟩
            have e1 := Sc.pre_get e (show k < (sb s).length by rw [HL.out]; exact hkl)
            rw [sb_get s k hkl, List.getD_eq_getElem?_getD] at e1
            rw [e1] at hne
            simp at hne
          · rename_i heq
            refine ⟨⟨k + 1, by omega, by go_num, Sc.pre_step HF.out (by rw [HL.out]; exact hkl) (by omega) ?_, bdn HB.out _⟩, by simp [intOf]; omega⟩
            rw [sb_get s k hkl, List.getD_eq_getElem?_getD]
            have h2 : ((zs[a + k]?.getD 0 : Nat) : Int) = (s[k].toNat : Int) := by simpa using heq
            exact Int.ofNat_inj.1 h2
        · obtain rfl : k = s.size := by omega
          go_wp2
          go_ret
          refine ⟨ret_bool (decide_eq_true ?_).symm, HB.out⟩
          rw [HL.out, HF.out, ← HL.out, List.take_length]
    · have e0 : sb s = [] := List.eq_nil_of_length_eq_zero (by omega)
      rw [e0]
      obtain ⟨ao, cap, rfl, _⟩ := hs
      have hz : s.size = 0 := by omega
      clear e0 hl h hp
      go_enter Tryd.func47, Tryd.ntmps47
      go_wp2
      go_quiet (fail)
      go_wp2
      go_loopw [5, 21] (fun _ i wr => i = .int .i64 0 ∧ Hid (Below w.heap.size w wr)) (fun _ _ _ => 0)
      case atStart => exact ⟨rfl, bdn (Below.refl _ _) _⟩
      case round =>
        obtain ⟨rfl, HB⟩ := hrel
        go_wp2
        go_ret
        exact ⟨rfl, HB.out⟩
  · have e0 : decide ((zs.drop a).take (sb s).length = sb s) = false := decide_eq_false fun e => by
      have := congrArg List.length e
      simp at this
      omega
    rw [e0]
    obtain ⟨ao, cap, rfl, _⟩ := hs
    clear e0 hl h
    go_enter Tryd.func47, Tryd.ntmps47
    go_wp2
    go_quiet (fail)
    go_wp2
    go_ret
    exact ⟨rfl, bdn (Below.refl _ _) _⟩
end Go.Proofs.YtlhecgokedckdaaDoor
