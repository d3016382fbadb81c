/- Syntax: the lexemes that are ahead. -/
import Derived.Test.YtmkibolkcjallaaGreatDoorScToks
import Derived.Lib.Hide
namespace Go.Proofs.YtmkibolkcjallaaGreatDoor
open Go.RowKit
/-- the parser: what its lexemes and its tree hold -/
structure Par where
  src : Value
  list : Value
  end_ : Int
  whole : Bool
  kind : Int
  n : Int
  s : ByteArray
  at_ : Int
  till : Int
  words : Value
  naming : Bool
  open_ : Int
  wrong : Int
  why : Int
  pos : Int
  word : ByteArray
  wat : Int
  index : Value
  top : Value
  items : Value
  nodes : Value
def Par.cells (p : Par) : Array Value := #[p.src, p.list, .int .i64 p.end_, .bool p.whole, .int .i64 p.kind, .int .u64 p.n, .string p.s, .int .i64 p.at_, .int .i64 p.till, p.words, .bool p.naming, .int .i64 p.open_, .int .i64 p.wrong, .int .i64 p.why, .int .i64 p.pos, .string p.word, .int .i64 p.wat, p.index, p.top, p.items, p.nodes]
def ParB (w : World) (g : Nat) (p : Par) : Prop := w.heap[g]? = some (.cells p.cells 52 (0, 0))
theorem ParB.lt {w : World} {g : Nat} {p : Par} (h : ParB w g p) : g < w.heap.size := (Array.getElem?_eq_some_iff.1 h).1
theorem ParB.cell {w : World} {g : Nat} {p : Par} (h : ParB w g p) (i : Nat) {v : Value} (hv : p.cells[i]? = some v) : w.cell? ⟨g, i, none⟩ = some v := by
  rw [cell_of_row w g i _ _ _ h]; exact hv
theorem ParB.thawed {w : World} {g : Nat} {p : Par} (h : ParB w g p) (i : Nat) : w.frozen? ⟨g, i, none⟩ = false := by
  simp [World.frozen?, show w.heap[g]? = _ from h]
theorem ParB.keeps {S : Nat → Prop} {w w' : World} {g : Nat} {p : Par} (h : ParB w g p) (hk : Keeps S w w') (hn : ¬ S g) : ParB w' g p := (hk.block g h.lt hn).trans h
theorem ParB.below {w w' : World} {g : Nat} {p : Par} (h : ParB w g p) (hb : Below w.heap.size w w') : ParB w' g p := (hb.block g h.lt).trans h
/-- the next lexeme stands at p, ends at q; the text's bytes -/
structure NextAt (w : World) (par : Par) (b o cap n g off m lc p q : Nat) : Prop where
  src : par.src = .slice (some ⟨b, o, none⟩) n cap
  list : par.list = .slice (some ⟨g, off, none⟩) m lc
  some_ : 0 < m
  pq : p < q
  qn : q ≤ n
  nc : n ≤ cap
  at_ : w.cell? ⟨g, off + 3, none⟩ = some (.int .i64 (p : Int))
  end_ : w.cell? ⟨g, off + 4, none⟩ = some (.int .i64 (q : Int))
set_option maxRecDepth 100000 in
set_option maxHeartbeats 2000000 in
theorem spelling_any {w : World} {pb : Nat} {par : Par} {b o cap n g off m lc p q : Nat} (hp : ParB w pb par) (hx : NextAt w par b o cap n g off m lc p q) :
    Calls Tryz.prog 42 #[.pointer (some ⟨pb, 0, none⟩)] w fun e w' => e = .returned (.slice (some ⟨b, o + p, none⟩) (q - p) (cap - p)) ∧ ∃ k, w' = w.drewN k := by
  obtain ⟨hsrc, hlist, hm, hpq, hqn, hnc, h3, h4⟩ := hx
  have hh : w.heap[pb]? = _ := hp
  have d0 := hp.cell 0 (v := par.src) rfl
  have d1 := hp.cell 1 (v := par.list) rfl
  rw [hsrc] at d0
  rw [hlist] at d1
  have i1 : (p : Int) ≤ (q : Int) := by omega
  have i2 : (q : Int) ≤ (cap : Int) := by omega
  have i3 : (0 : Int) ≤ (p : Int) := by omega
  have i4 : (0 : Int) < (m : Int) := by omega
  have i5 : ¬ cap = p := by omega
  have i6 : (0 : Nat) < m := hm
  clear hp hsrc hlist hpq hqn hnc hm
  go_enter Tryz.func42, Tryz.ntmps42
  go_wp2_with fail
  go_quiet (fail)
  go_wp2_with fail
  go_ret
  exact ⟨rfl, _, rfl⟩
namespace Sy
/-- how many bytes two spellings begin with alike -/
def sharedN : List Nat → List Nat → Nat
  | a :: l, b :: m => if a = b then sharedN l m + 1 else 0
  | _, _ => 0
theorem shared_le : ∀ (l m : List Nat), sharedN l m ≤ l.length ∧ sharedN l m ≤ m.length
  | [], _ => ⟨Nat.le_refl _, Nat.zero_le _⟩
  | _ :: _, [] => ⟨Nat.zero_le _, Nat.le_refl _⟩
  | a :: l, b :: m => by
    rw [sharedN]
    split
    · have := shared_le l m; simp; omega
    · simp
theorem shared_of : ∀ (k : Nat) (l m : List Nat), k ≤ l.length → k ≤ m.length → l.take k = m.take k → (k < l.length → k < m.length → l.getD k 0 ≠ m.getD k 0) → sharedN l m = k
  | 0, [], _, _, _, _, _ => rfl
  | 0, _ :: _, [], _, _, _, _ => rfl
  | 0, a :: l, b :: m, _, _, _, h => by
    rw [sharedN, if_neg]
    have := h (by simp) (by simp)
    simpa using this
  | k + 1, [], _, h, _, _, _ => by simp at h
  | k + 1, _ :: _, [], _, h, _, _ => by simp at h
  | k + 1, a :: l, b :: m, h1, h2, h3, h4 => by
    simp only [List.take_succ_cons, List.cons.injEq] at h3
    obtain ⟨rfl, h3⟩ := h3
    rw [sharedN, if_pos rfl, shared_of k l m (by simpa using h1) (by simpa using h2) h3 (fun h h' => h4 (by simpa using h) (by simpa using h'))]
end Sy
set_option maxRecDepth 100000 in
set_option maxHeartbeats 2000000 in
theorem shared_any {w : World} {v : Value} {zs : List Nat} (s : ByteArray) (hs : Sl w v zs) (hl : zs.length ≤ 1048576) (hsz : s.size ≤ 1048576) :
    Calls Tryz.prog 66 #[.string s, v] w fun e w' => e = .returned (.int .i64 (Sy.sharedN (sb s) zs : Nat)) ∧ Below w.heap.size w w' := by
  have HS : Hid (∀ i, i < zs.length → ∃ b o c, v = .slice (some ⟨b, o, none⟩) zs.length c ∧ w.cell? ⟨b, o + i, none⟩ = some (.int .u8 (zs.getD i 0 : Nat))) := fun i hi => by
    obtain ⟨b, o, c, rfl, _, _, _, h4⟩ := hs.pos (by omega)
    exact ⟨b, o, c, rfl, h4 i hi⟩
  obtain ⟨ao, cap, rfl, y1, y2, y3, y4, y5⟩ := hs
  clear y1 y2 y3 y4 y5
  obtain ⟨N, hN⟩ : ∃ N, zs.length = N := ⟨_, rfl⟩
  have HN : Hid (zs.length = N) := hN
  have HL : Hid ((sb s).length = s.size) := sb_length s
  have HB : Hid (N ≤ 1048576 ∧ s.size ≤ 1048576) := ⟨by omega, hsz⟩
  rw [hN]
  clear hN hl hsz
  go_enter Tryz.func66, Tryz.ntmps66
  go_wp2_with fail
  go_loopw [5] (fun iv wr => ∃ k : Nat, k ≤ s.size ∧ k ≤ N ∧ iv = .int .i64 (k : Int) ∧ Hid ((sb s).take k = zs.take k) ∧ (∀ p, wr.cell? p = w.cell? p) ∧ Hid (Below w.heap.size w wr)) (fun iv _ => N - (intOf iv).toNat)
  case atStart => exact ⟨0, Nat.zero_le _, Nat.zero_le _, rfl, rfl, fun _ => rfl, Below.refl _ _⟩
  case round =>
    obtain ⟨k, hk1, hk2, rfl, HT, hcw, HBw⟩ := hrel
    by_cases hlt : k < s.size ∧ k < N
    · obtain ⟨h1, h2⟩ := hlt
      obtain ⟨b, o, c, hv, hc⟩ := HS.out k (by rw [HN.out]; exact h2)
      simp only [Value.slice.injEq] at hv
      obtain ⟨rfl, y0, rfl⟩ := hv
      clear y0
      have hc' := (hcw _).trans hc
      have hsk := sb_get s k h1
      have HT1 : Hid (s[k].toNat = zs.getD k 0 → (sb s).take (k + 1) = zs.take (k + 1)) := fun e => by
        rw [List.take_succ_eq_append_getElem (by rw [HL.out]; exact h1), List.take_succ_eq_append_getElem (by rw [HN.out]; exact h2), HT.out]
        congr 2
        have e1 : (sb s)[k]'(by rw [HL.out]; exact h1) = (sb s).getD k 0 := by rw [List.getD_eq_getElem?_getD, List.getElem?_eq_getElem (by rw [HL.out]; exact h1)]; rfl
        have e2 : zs[k]'(by rw [HN.out]; exact h2) = zs.getD k 0 := by rw [List.getD_eq_getElem?_getD, List.getElem?_eq_getElem (by rw [HN.out]; exact h2)]; rfl
        rw [e1, e2, hsk, e]
      have HX : Hid (s[k].toNat ≠ zs.getD k 0 → Sy.sharedN (sb s) zs = k) := fun e => Sy.shared_of k _ _ (by rw [HL.out]; omega) (by rw [HN.out]; omega) HT.out (fun _ _ => by rw [hsk]; exact e)
      have im : (k : Int) < min (s.size : Int) (N : Int) := by omega
      have jm : decide ((k : Int) < if N < s.size then (N : Int) else (s.size : Int)) = true := decide_eq_true (by split <;> omega)
      have i1 : (k : Int) < (s.size : Int) := by omega
      have i2 : (k : Int) < (N : Int) := by omega
      have i0 : (0 : Int) ≤ (k : Int) := by omega
      have HCw : Hid (∀ p, wr.cell? p = w.cell? p) := hcw
      clear hc hsk hcw HT HS
      generalize zs.getD k 0 = z at *
      by_cases hz : s[k].toNat = z
      · have ez : ((s[k].toNat : Int) == (z : Int)) = true := by rw [hz]; exact beq_self_eq_true _
        have HT2 := Lib.hid (HT1.out hz)
        clear hz HX HT1
        go_wp2_with fail
        go_quiet (fail)
        go_wp2_with fail
        all_goals
          have hw : wrap64 ((k : Int) + 1) = ((k + 1 : Nat) : Int) := by have := HB.out; unfold wrap64; omega
          rw [hw]
          exact ⟨⟨k + 1, by omega, by omega, rfl, HT2, HCw.out, bdn HBw.out _⟩, by simp only [intOf, Int.toNat_natCast]; omega⟩
      · have ez : ((s[k].toNat : Int) == (z : Int)) = false := beq_eq_false_iff_ne.2 (by omega)
        have HX2 := Lib.hid (HX.out hz)
        clear hz HX HT1
        go_wp2_with fail
        go_quiet (fail)
        go_wp2_with fail
        all_goals
          go_ret
          rw [HX2.out]
          exact ⟨rfl, bdn HBw.out _⟩
    · have HX : Hid (Sy.sharedN (sb s) zs = k) := Sy.shared_of k _ _ (by rw [HL.out]; omega) (by rw [HN.out]; omega) HT.out (fun h1 h2 => absurd ⟨by rw [← HL.out]; exact h1, by rw [← HN.out]; exact h2⟩ hlt)
      have im : ¬ (k : Int) < min (s.size : Int) (N : Int) := by omega
      have jm : decide ((k : Int) < if N < s.size then (N : Int) else (s.size : Int)) = false := decide_eq_false (by split <;> omega)
      clear hcw hlt HT HS
      go_wp2_with fail
      go_quiet (fail)
      go_wp2_with fail
      all_goals
        go_ret
        rw [HX.out]
        exact ⟨rfl, bdn HBw.out _⟩
end Go.Proofs.YtmkibolkcjallaaGreatDoor
