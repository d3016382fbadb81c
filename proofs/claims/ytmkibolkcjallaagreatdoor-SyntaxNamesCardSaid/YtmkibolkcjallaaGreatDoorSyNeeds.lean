/- Syntax: needs, word, where what is wanted is ahead. -/
import Derived.Test.YtmkibolkcjallaaGreatDoorSyKind
namespace Go.Proofs.YtmkibolkcjallaaGreatDoor
open Go.RowKit
set_option maxRecDepth 100000 in
set_option maxHeartbeats 2000000 in
theorem needs_this {w : World} {pb base b o cap n g off m lc p q : Nat} {par : Par} {ws : List ByteArray} {zs : List Nat} (t : ByteArray) (hp : ParB w pb par) (hx : NextAt w par b o cap n g off m lc p q) (hsl : Sl w (.slice (some ⟨b, o + p, none⟩) (q - p) (cap - p)) zs) (hgb : g ≠ pb ∧ b ≠ pb ∧ par.words.ownBlock ≠ some g ∧ par.words.ownBlock ≠ some b) (hzt : mkS zs = t) {tk tn : Int} {ts : ByteArray} (hmc : m ≤ lc) (h0 : w.cell? ⟨g, off, none⟩ = some (.int .i64 tk)) (h1 : w.cell? ⟨g, off + 1, none⟩ = some (.int .u64 tn)) (h2 : w.cell? ⟨g, off + 2, none⟩ = some (.string ts)) (ho : 0 ≤ par.open_ ∧ par.open_ ≤ 1000) (ho2 : openN tk par.open_ ≤ 32) (hw : OwnS w base par.words ws) (hne : par.words.ownBlock ≠ some pb) (hb : ws.length ≤ 1000) (hbase : base ≤ w.heap.size) :
    Calls Tryz.prog 15 #[.pointer (some ⟨pb, 0, none⟩), .string t] w fun e w' => e = .returned (.tuple #[]) ∧ ∃ wv, ParB w' pb { par with list := tailV g off m lc, kind := tk, n := tn, s := ts, at_ := (p : Int), till := (q : Int), words := wv, naming := false, open_ := openN tk par.open_ } ∧ OwnS w' base wv [] ∧ Lie w pb par.words wv ∧ Keeps (fun k => k = pb ∨ par.words.ownBlock = some k) w w' := by
  have HT := Lib.hid (takes_this t hp hx hsl hgb hzt hmc h0 h1 h2 ho ho2 hw hne hb hbase)
  clear hx hsl hgb hzt hmc h0 h1 h2 ho ho2 hw hne hb hbase hp
  go_enter Tryz.func15, Tryz.ntmps15
  go_wp2_with fail
  refine HT.out.mono ?_
  rintro e w5 ⟨rfl, h5⟩
  have H5 := Lib.hid h5
  clear h5
  go_wp2_with fail
  go_end0
  exact ⟨rfl, H5.out⟩
/-- a block that holds a Ref -/
def RefB (w : World) (g : Nat) (s : ByteArray) (a : Int) (v : Value) : Prop := w.heap[g]? = some (.cells #[.string s, .int .i64 a, v] 24 (0, 0))
def refV (s : ByteArray) (a : Int) (v : Value) : Value := .agg #[.string s, .int .i64 a, v]
theorem RefB.cells {w : World} {g : Nat} {s : ByteArray} {a : Int} {v : Value} (h : RefB w g s a v) : w.cell? ⟨g, 0, none⟩ = some (.string s) ∧ w.cell? ⟨g, 1, none⟩ = some (.int .i64 a) ∧ w.cell? ⟨g, 2, none⟩ = some v :=
  ⟨by rw [cell_of_row w _ 0 _ _ _ h]; rfl, by rw [cell_of_row w _ 1 _ _ _ h]; rfl, by rw [cell_of_row w _ 2 _ _ _ h]; rfl⟩
theorem RefB.set {w : World} {g : Nat} {s s' : ByteArray} {a a' : Int} {v v' : Value} (h : RefB w g s a v) : RefB (((w.setCell ⟨g, 0, none⟩ (.string s')).setCell ⟨g, 1, none⟩ (.int .i64 a')).setCell ⟨g, 2, none⟩ v') g s' a' v' := by
  have h' : w.heap[g]? = _ := h
  simp [RefB, World.setCell, Array.getElem?_modify, h']
theorem ref_keeps {w : World} {g : Nat} {x y z : Value} : Keeps (fun k => k = g) w (((w.setCell ⟨g, 0, none⟩ x).setCell ⟨g, 1, none⟩ y).setCell ⟨g, 2, none⟩ z) := ((Keeps.setCell _ _ 0 _).trans (Keeps.setCell _ _ 1 _) (fun _ _ e => e)).trans (Keeps.setCell _ _ 2 _) (fun _ _ e => e)
theorem Keeps.drewR {S : Nat → Prop} {a b : World} (h : Keeps S a b) : Keeps S a b.drew := ⟨h.os, h.tape, h.output, h.size, h.block⟩
theorem ret_word {W2 : World} {g : Nat} {s : ByteArray} {a : Int} {v : Value} {T : Array Value} (h : RefB W2 g s a v) (h2 : T[2]?.getD undef = .pointer (some ⟨g, 0, none⟩)) : (results Tryz.f16 T).run Tryz.prog W2 = .ok (refV s a v) W2 := by
  obtain ⟨d0, d1, d2⟩ := h.cells
  simp [results, Tryz.results16, go_sem, refV, h2, d0, d1, d2]
set_option maxRecDepth 100000 in
set_option maxHeartbeats 2000000 in
theorem word_this {w : World} {pb g off m lc wl wc : Nat} {wa : Option Addr} {par : Par} {tn ta te : Int} {ts : ByteArray} (hp : ParB w pb par) (hl : par.list = .slice (some ⟨g, off, none⟩) m lc) (hm : 0 < m) (hmc : m ≤ lc) (hw : par.words = .slice wa wl wc) (hgb : g ≠ pb) (h0 : w.cell? ⟨g, off, none⟩ = some (.int .i64 1))
    (h1 : w.cell? ⟨g, off + 1, none⟩ = some (.int .u64 tn)) (h2 : w.cell? ⟨g, off + 2, none⟩ = some (.string ts)) (h3 : w.cell? ⟨g, off + 3, none⟩ = some (.int .i64 ta)) (h4 : w.cell? ⟨g, off + 4, none⟩ = some (.int .i64 te))
    (ho : 0 ≤ par.open_ ∧ par.open_ ≤ 32) :
    Calls Tryz.prog 16 #[.pointer (some ⟨pb, 0, none⟩)] w fun e w' => e = .returned (refV ts ta (.slice none 0 0)) ∧ ParB w' pb { par with list := tailV g off m lc, kind := 1, n := tn, s := ts, at_ := ta, till := te, words := .slice wa 0 wc, naming := false } ∧ Keeps (fun k => k = pb) w w' := by
  have HT : Hid (∀ X, Calls Tryz.prog 29 #[.pointer (some ⟨pb, 0, none⟩), .int .i64 1] (w.alloc X) fun e w' => e = .returned (.bool true) ∧ ParB w' pb { par with list := tailV g off m lc, kind := 1, n := tn, s := ts, at_ := ta, till := te, words := .slice wa 0 wc, naming := false } ∧ Keeps (fun k => k = pb) (w.alloc X) w') := fun X => by
    have hk : Keeps (fun k => k = pb) w (w.alloc X) := Keeps.alloc _ _
    exact takesKind_this 1 (hp.keeps (Keeps.alloc (S := fun _ => False) w X) id) hl hm hmc hw hgb (cell_keeps h0 hk hgb) (cell_keeps h1 hk hgb) (cell_keeps h2 hk hgb) (cell_keeps h3 hk hgb) (cell_keeps h4 hk hgb) ⟨ho.1, by omega⟩ (by simp [openN]; omega)
  have hlt := hp.lt
  clear hl hm hmc hw hgb h0 h1 h2 h3 h4 ho hp
  go_enter Tryz.func16, Tryz.ntmps16
  go_wp2_with fail
  refine (HT.out _).mono ?_
  rintro e w5 ⟨rfl, hb5, hk5⟩
  have hr5 : w5.heap[w.heap.size]? = some (.cells #[Value.string ⟨#[]⟩, Value.int IntKind.i64 0, Value.slice none 0 0] 24 (0, 0)) := by
    rw [hk5.block w.heap.size (by simp) (by show ¬ (w.heap.size = pb); omega)]
    exact Array.getElem?_push_size
  have c0 : w5.cell? ⟨w.heap.size, 0, none⟩ = some (.string ⟨#[]⟩) := by rw [cell_of_row w5 _ 0 _ _ _ hr5]; rfl
  have c1 : w5.cell? ⟨w.heap.size, 1, none⟩ = some (.int .i64 0) := by rw [cell_of_row w5 _ 1 _ _ _ hr5]; rfl
  have c2 : w5.cell? ⟨w.heap.size, 2, none⟩ = some (.slice none 0 0) := by rw [cell_of_row w5 _ 2 _ _ _ hr5]; rfl
  have t0 : w5.frozen? ⟨w.heap.size, 0, none⟩ = false := by simp [World.frozen?, hr5]
  have t1 : w5.frozen? ⟨w.heap.size, 1, none⟩ = false := by simp [World.frozen?, hr5]
  have t2 : w5.frozen? ⟨w.heap.size, 2, none⟩ = false := by simp [World.frozen?, hr5]
  have e6 := hb5.cell 6 (v := .string ts) rfl
  have e7 := hb5.cell 7 (v := .int .i64 ta) rfl
  have HB5 := Lib.hid hb5
  have HK5 := Lib.hid hk5
  clear hb5 hk5
  go_wp2_with fail
  have HR5 : Hid (RefB w5 w.heap.size ⟨#[]⟩ 0 (.slice none 0 0)) := hr5
  clear hr5
  go_region
  have HK6 := Lib.hid (((Keeps.alloc (S := fun k => k = pb) w _).trans HK5.out (fun _ _ e => e)).trans (ref_keeps (w := w5) (g := w.heap.size) (x := .string ts) (y := .int .i64 ta) (z := .slice none 0 0)) (fun i hi e => absurd e (by omega))).drewR
  have HB6 := Lib.hid (ParB.drew (HB5.out.keeps (ref_keeps (w := w5) (g := w.heap.size) (x := .string ts) (y := .int .i64 ta) (z := .slice none 0 0)) (show ¬ (pb = w.heap.size) by omega)))
  have HR6 := Lib.hid (HR5.out.set (s' := ts) (a' := ta) (v' := .slice none 0 0))
  go_wp2_with fail
  refine bodyPost_ret (v := refV ts ta (.slice none 0 0)) (ret_word HR6.out rfl) rfl ?_
  exact ⟨rfl, HB6.out, HK6.out⟩
end Go.Proofs.YtmkibolkcjallaaGreatDoor
