/- Syntax: At. -/
import Derived.Test.YtmkibolkcjallaaGreatDoorSWord
import Derived.Shelf.Bytes.SlCountOne
import Derived.Lib.Hide
namespace Go.Proofs.YtmkibolkcjallaaGreatDoor
open Go.RowKit
namespace Sy
/-- how many newlines -/
def cntN (l : List Nat) : Nat := l.count 10
def lastFrom : Nat → List Nat → Int → Int
  | _, [], r => r
  | i, b :: l, r => lastFrom (i + 1) l (if b = 10 then (i : Int) else r)
/-- where the last newline stands; -1: there is none -/
def lastN (l : List Nat) : Int := lastFrom 0 l (-1)
theorem lastFrom_snoc : ∀ (l : List Nat) (i : Nat) (r : Int) (b : Nat), lastFrom i (l ++ [b]) r = if b = 10 then ((i + l.length : Nat) : Int) else lastFrom i l r
  | [], i, r, b => by simp [lastFrom]
  | c :: l, i, r, b => by
    rw [List.cons_append, lastFrom, lastFrom_snoc l (i + 1), lastFrom]
    simp only [List.length_cons]
    rw [show i + 1 + l.length = i + (l.length + 1) from by omega]
theorem last_snoc (l : List Nat) (b : Nat) : lastN (l ++ [b]) = if b = 10 then (l.length : Int) else lastN l := by
  unfold lastN
  rw [lastFrom_snoc, Nat.zero_add]
theorem lastFrom_range : ∀ (l : List Nat) (i : Nat) (r : Int), -1 ≤ r → r < i → -1 ≤ lastFrom i l r ∧ lastFrom i l r < ((i + l.length : Nat) : Int)
  | [], i, r, h1, h2 => ⟨h1, by simpa [lastFrom] using h2⟩
  | b :: l, i, r, h1, h2 => by
    rw [lastFrom]
    have := lastFrom_range l (i + 1) (if b = 10 then (i : Int) else r) (by split <;> omega) (by split <;> omega)
    simp only [List.length_cons]
    omega
theorem last_range (l : List Nat) : -1 ≤ lastN l ∧ lastN l < l.length := by
  have := lastFrom_range l 0 (-1) (by omega) (by omega)
  unfold lastN
  omega
theorem take_snoc {l : List Nat} {k : Nat} (h : k < l.length) : l.take (k + 1) = l.take k ++ [l.getD k 0] := by
  rw [List.take_succ_eq_append_getElem h, List.getD_eq_getElem?_getD, List.getElem?_eq_getElem h]
  rfl
theorem cnt_snoc (l : List Nat) (b : Nat) : cntN (l ++ [b]) = cntN l + if b = 10 then 1 else 0 := by
  unfold cntN
  rw [List.count_append]
  by_cases h : b = 10
  · subst h; simp
  · simp [h]
theorem cnt_le (l : List Nat) : cntN l ≤ l.length := List.count_le_length
/-- an offset brought into a text -/
def clampN (at_ : Int) (n : Nat) : Nat := if at_ < 0 then 0 else if (n : Int) < at_ then n else at_.toNat
def placeV (l : List Nat) (a : Nat) : Value := .agg #[.int .i64 (a : Int), .int .i64 (1 + (cntN (l.take a) : Int)), .int .i64 ((a : Int) - lastN (l.take a))]
end Sy
theorem count_bytes (zs : List Nat) (hz : ∀ z ∈ zs, z < 256) : Lib.countByte (Lib.bytesOf (zs.map fun (z : Nat) => (z : Int))) 10 = Sy.cntN zs := by
  unfold Lib.countByte Lib.bytesOf Sy.cntN
  induction zs with
  | nil => rfl
  | cons b l ih =>
    have hb := hz b (by simp)
    have ih' := ih (fun z h => hz z (by simp [h]))
    simp only [List.map_cons, List.count_cons]
    rw [ih']
    congr 1
    have : ((b : Int).toNat.toUInt8 == 10) = (b == 10) := by
      rw [Int.toNat_natCast]
      by_cases h : b = 10
      · subst h; rfl
      · rw [beq_eq_false_iff_ne.2 h]
        refine beq_eq_false_iff_ne.2 fun e => h ?_
        have := congrArg UInt8.toNat e
        simp at this
        omega
    rw [this]
set_option maxRecDepth 100000 in
set_option maxHeartbeats 1000000 in
/-- bytes.Count of newlines -/
theorem count_any {w : World} {v : Value} {zs : List Nat} {b2 : Nat} (hs : Sl w v zs) (hc2 : w.cell? ⟨b2, 0, none⟩ = some (.int .u8 10)) :
    Calls Tryz.prog 12 #[v, .slice (some ⟨b2, 0, none⟩) 1 1] w fun e w' => e = .returned (.int .i64 (Sy.cntN zs : Int)) ∧ w' = w := by
  have HX : Hid ((callFunc 21 #[v, .int .u8 10]).run Tryz.prog w = .ok (.value (.int .i64 (Sy.cntN zs : Int))) w) := by
    show _ = _
    rw [run_callFunc_extern Tryz.func21 (by kernel_rfl) (by kernel_rfl) (by kernel_rfl) (e := Extern.BytealgCount.count) (by kernel_rfl)]
    by_cases hp : 0 < zs.length
    · obtain ⟨b, o, c, rfl, _, _, hz, h4⟩ := hs.pos hp
      rw [Lib.run_countSlice w b o zs.length c (zs.map fun (z : Nat) => (z : Int)) (by simp) (fun i hi => by
        rw [h4 i hi]
        congr 2
        simp [List.getD_eq_getElem?_getD, List.getElem?_map, List.getElem?_eq_getElem hi]) 10]
      rw [show (10 : Int).toNat.toUInt8 = 10 from rfl, count_bytes zs hz]
      rfl
    · obtain rfl : zs = [] := List.eq_nil_of_length_eq_zero (by omega)
      obtain ⟨ao, cap, rfl, _⟩ := hs
      cases ao with
      | none =>
        rw [Lib.run_countNil]
        rfl
      | some a =>
        rw [List.length_nil, Lib.run_countAt w a 0 cap [] rfl (fun i hi => by omega) 10]
        rfl
  obtain ⟨ao, cap, rfl, _⟩ := hs
  generalize Sy.cntN zs = N at *
  have hx := HX.out
  clear HX
  go_enter Tryz.func12, Tryz.ntmps12
  go_wp2
  go_ret
  exact ⟨rfl, rfl⟩
set_option maxRecDepth 100000 in
set_option maxHeartbeats 1000000 in
theorem ilast_any {w : World} {v : Value} {zs : List Nat} (hs : Sl w v zs) (hl : zs.length ≤ 140737488355328) :
    Calls Tryz.prog 23 #[v, .int .u8 10] w fun e w' => e = .returned (.int .i64 (Sy.lastN zs)) ∧ w = w' := by
  have HS : Hid (∀ i, i < zs.length → ∃ b o c, v = .slice (some ⟨b, o, none⟩) zs.length c ∧ w.cell? ⟨b, o + i, none⟩ = some (.int .u8 (zs.getD i 0 : Nat))) := fun i hi => by
    obtain ⟨b, o, c, rfl, _, _, _, h4⟩ := hs.pos (by omega)
    exact ⟨b, o, c, rfl, h4 i hi⟩
  obtain ⟨ao, cap, rfl, y1, y2, y3, y4, y5⟩ := hs
  clear y1 y2 y3 y4 y5
  obtain ⟨n, hn⟩ : ∃ n, zs.length = n := ⟨_, rfl⟩
  have HN : Hid (zs.length = n) := hn
  rw [hn] at hl ⊢
  have hpi : (n : Int) ≤ 140737488355328 := by omega
  clear hn hl
  go_enter Tryz.func23, Tryz.ntmps23
  go_wp2_with fail
  go_loopw [5] (fun iv wr => ∃ k : Nat, k ≤ n ∧ iv = .int .i64 ((k : Int) - 1) ∧ Hid (Sy.lastN zs = Sy.lastN (zs.take k)) ∧ wr = w) (fun iv _ => (intOf iv + 1).toNat)
  case atStart => exact ⟨n, Nat.le_refl _, rfl, by show _ = _; rw [List.take_of_length_le (by rw [HN.out]; omega)], rfl⟩
  case round =>
    obtain ⟨k, hk, rfl, HL, hw⟩ := hrel
    have hw := hw.symm
    subst hw
    by_cases h0 : k = 0
    · subst h0
      have HE : Hid (Sy.lastN zs = -1) := HL.out
      go_wp2_with fail
      go_ret
      rw [HE.out]
      exact ⟨rfl, rfl⟩
    · obtain ⟨j, rfl⟩ : ∃ j, k = j + 1 := ⟨k - 1, by omega⟩
      have hj : j < zs.length := by rw [HN.out]; omega
      obtain ⟨b, o, c, hv, hc⟩ := HS.out j hj
      simp only [Value.slice.injEq] at hv
      obtain ⟨rfl, _, rfl⟩ := hv
      have hst := HL.out
      rw [Sy.take_snoc hj, Sy.last_snoc, List.length_take, Nat.min_eq_left (by omega)] at hst
      have HST := Lib.hid hst
      have e1 : ((j + 1 : Nat) : Int) - 1 = (j : Int) := by omega
      rw [e1]
      have ij : (j : Int) < (n : Int) := by omega
      have ij0 : (0 : Int) ≤ (j : Int) := by omega
      clear hst HL HS
      generalize zs.getD j 0 = z at *
      by_cases hz : z = 10
      · subst hz
        have HE : Hid (Sy.lastN zs = (j : Int)) := by show _ = _; rw [HST.out, if_pos rfl]
        clear HST
        go_wp2_with fail
        go_ret
        rw [HE.out]
        exact ⟨rfl, rfl⟩
      · have ez : ((z : Int) == 10) = false := beq_eq_false_iff_ne.2 (by omega)
        have HE : Hid (Sy.lastN zs = Sy.lastN (zs.take j)) := by show _ = _; rw [HST.out, if_neg hz]
        clear HST hz
        go_wp2_with fail
        exact ⟨⟨j, by omega, by go_num, HE, trivial⟩, by simp only [intOf]; omega⟩
set_option maxHeartbeats 400000 in
theorem last_any {w : World} {v : Value} {zs : List Nat} (hs : Sl w v zs) (hl : zs.length ≤ 140737488355328) :
    Calls Tryz.prog 13 #[v, .int .u8 10] w fun e w' => e = .returned (.int .i64 (Sy.lastN zs)) ∧ w = w' := by
  have HX := Lib.hid (ilast_any hs hl)
  obtain ⟨ao, cap, rfl, _⟩ := hs
  generalize Sy.lastN zs = N at *
  go_enter Tryz.func13, Tryz.ntmps13
  go_wp2_with fail
  refine HX.out.mono ?_
  rintro e w1 ⟨rfl, rfl⟩
  go_wp2_with fail
  go_ret
  exact ⟨rfl, rfl⟩
/-- a place that lies in a block -/
def PlaceB (w : World) (g : Nat) (a b c : Int) : Prop := w.cell? ⟨g, 0, none⟩ = some (.int .i64 a) ∧ w.cell? ⟨g, 1, none⟩ = some (.int .i64 b) ∧ w.cell? ⟨g, 2, none⟩ = some (.int .i64 c)
theorem ret_place {W2 : World} {g : Nat} {a b c : Int} {T : Array Value} (h : PlaceB W2 g a b c) (h4 : T[4]?.getD undef = .pointer (some ⟨g, 0, none⟩)) : (results Tryz.f7 T).run Tryz.prog W2 = .ok (.agg #[.int .i64 a, .int .i64 b, .int .i64 c]) W2 := by
  obtain ⟨d0, d1, d2⟩ := h
  simp [results, Tryz.results7, go_sem, h4, d0, d1, d2]
set_option maxRecDepth 100000 in
set_option maxHeartbeats 2000000 in
theorem at_any {w : World} {v : Value} {zs : List Nat} {x : Int} (hs : Sl w v zs) (hl : zs.length ≤ 140737488355328) :
    Calls Tryz.prog 7 #[v, .int .i64 x] w fun e w' => e = .returned (Sy.placeV zs (Sy.clampN x zs.length)) ∧ Below w.heap.size w w' := by
  have hle : Sy.clampN x zs.length ≤ zs.length := by unfold Sy.clampN; split <;> (try split) <;> omega
  have hcl : min (max x 0) (zs.length : Int) = (Sy.clampN x zs.length : Int) := by unfold Sy.clampN; split <;> (try split) <;> omega
  have HSf : Hid (∀ W a c, Below w.heap.size w W → a ≤ zs.length → (∃ o, v = .slice o zs.length c) → ∃ o, v = .slice o zs.length c ∧ Sl W (.slice o a c) (zs.take a)) := fun W a c hW ha ⟨o, ho⟩ => by
    refine ⟨o, ho, ?_⟩
    subst ho
    obtain ⟨ao, cap, e, h1, h2, h3, h4, h5⟩ := hs.below hW
    simp only [Value.slice.injEq] at e
    obtain ⟨rfl, _, rfl⟩ := e
    have hta : (zs.take a).length = a := by rw [List.length_take]; omega
    refine ⟨o, c, by rw [hta], by omega, h2, fun z hz => h3 z (List.mem_of_mem_take hz), h4, fun i hi => ?_⟩
    rw [hta] at hi
    obtain ⟨b, oo, e1, e2⟩ := h5 i (by omega)
    refine ⟨b, oo, e1, ?_⟩
    rw [e2]
    congr 3
    simp only [List.getD_eq_getElem?_getD, List.getElem?_take]
    rw [if_pos hi]
  obtain ⟨ao, cap, rfl, y1, y2, y3, y4, y5⟩ := hs
  unfold Sy.placeV
  generalize Sy.clampN x zs.length = a at *
  obtain ⟨n, hn⟩ : ∃ n, zs.length = n := ⟨_, rfl⟩
  have HN : Hid (zs.length = n) := hn
  rw [hn] at hl hle hcl y1 ⊢
  have hx1 : (a : Int) ≤ (cap : Int) := by omega
  have hx0 : (0 : Int) ≤ (a : Int) := by omega
  have HLe : Hid (a ≤ n ∧ n ≤ 140737488355328) := ⟨hle, hl⟩
  clear y1 y2 y3 y4 y5 hn hl hle
  have HSl : Hid (∀ W, Below w.heap.size w W → Sl W (.slice ao a cap) (zs.take a)) := fun W hW => by
    obtain ⟨o, ho, h⟩ := HSf.out W a cap hW (by rw [HN.out]; exact HLe.out.1) ⟨ao, rfl⟩
    simp only [Value.slice.injEq] at ho
    obtain ⟨rfl, _, _⟩ := ho
    exact h
  have hta : (zs.take a).length = a := by rw [List.length_take, HN.out]; have := HLe.out.1; omega
  have HCn : Hid (∀ W b2, Below w.heap.size w W → W.cell? ⟨b2, 0, none⟩ = some (.int .u8 10) → Calls Tryz.prog 12 #[.slice ao a cap, .slice (some ⟨b2, 0, none⟩) 1 1] W fun e w' => e = .returned (.int .i64 (Sy.cntN (zs.take a) : Int)) ∧ W = w') := fun W b2 hW hc => (count_any (HSl.out W hW) hc).mono fun _ _ h => ⟨h.1, h.2.symm⟩
  have HLa : Hid (∀ W, Below w.heap.size w W → Calls Tryz.prog 13 #[.slice ao a cap, .int .u8 10] W fun e w' => e = .returned (.int .i64 (Sy.lastN (zs.take a))) ∧ W = w') := fun W hW => last_any (HSl.out W hW) (by rw [hta]; have := HLe.out; omega)
  have hcb := Sy.cnt_le (zs.take a)
  have hlb := Sy.last_range (zs.take a)
  rw [hta] at hcb hlb
  have hla := HLe.out
  generalize Sy.cntN (zs.take a) = C at *
  generalize Sy.lastN (zs.take a) = L at *
  have k1 : wrap64 ((a : Int) - L) = (a : Int) - L := by unfold wrap64; omega
  have k2 : IntKind.i64.wrap ((a : Int) - L) = (a : Int) - L := by rw [IntKind.wrap_i64]; omega
  have k3 : wrap64 (1 + (C : Int)) = 1 + (C : Int) := by unfold wrap64; omega
  have k4 : IntKind.i64.wrap (1 + (C : Int)) = 1 + (C : Int) := by rw [IntKind.wrap_i64]; omega
  have HB0 : Hid (∀ X Y, Below w.heap.size w ((w.alloc X).alloc Y)) := fun X Y => ((Below.refl _ _).alloc (Nat.le_refl _) _).alloc (by simp) _
  clear hcb hlb hla hta HSf HSl
  go_enter Tryz.func7, Tryz.ntmps7
  go_wp2_with fail
  refine (HCn.out _ _ (HB0.out _ _) (by simp)).mono ?_
  rintro e w1 ⟨rfl, rfl⟩
  clear HCn
  go_wp2_with fail
  refine (HLa.out _ (HB0.out _ _)).mono ?_
  rintro e w1 ⟨rfl, rfl⟩
  clear HLa
  go_wp2_with fail
  refine bodyPost_ret (v := .agg #[.int .i64 (a : Int), .int .i64 (1 + (C : Int)), .int .i64 ((a : Int) - L)]) (ret_place (g := w.heap.size) ⟨by simp, by simp, by simp⟩ rfl) rfl ?_
  exact ⟨rfl, HB0.out _ _⟩
/-- a place in a block of its own -/
def PlcB (w : World) (g : Nat) (a b c : Int) : Prop := w.heap[g]? = some (.cells #[.int .i64 a, .int .i64 b, .int .i64 c] 30 (0, 0))
theorem PlcB.cells {w : World} {g : Nat} {a b c : Int} (h : PlcB w g a b c) : w.cell? ⟨g, 0, none⟩ = some (.int .i64 a) ∧ w.cell? ⟨g, 1, none⟩ = some (.int .i64 b) ∧ w.cell? ⟨g, 2, none⟩ = some (.int .i64 c) := by
  refine ⟨?_, ?_, ?_⟩ <;> rw [cell_of_row w g _ _ _ _ h] <;> rfl
theorem PlcB.thawed {w : World} {g : Nat} {a b c : Int} (h : PlcB w g a b c) (i : Nat) : w.frozen? ⟨g, i, none⟩ = false := by
  simp [World.frozen?, show w.heap[g]? = _ from h]
theorem PlcB.set0 {w : World} {g : Nat} {a b c : Int} (h : PlcB w g a b c) (x : Int) : PlcB (w.setCell ⟨g, 0, none⟩ (.int .i64 x)) g x b c := by
  have h' : w.heap[g]? = _ := h
  simp [PlcB, World.setCell, Array.getElem?_modify, h']
theorem PlcB.set1 {w : World} {g : Nat} {a b c : Int} (h : PlcB w g a b c) (x : Int) : PlcB (w.setCell ⟨g, 1, none⟩ (.int .i64 x)) g a x c := by
  have h' : w.heap[g]? = _ := h
  simp [PlcB, World.setCell, Array.getElem?_modify, h']
theorem PlcB.set2 {w : World} {g : Nat} {a b c : Int} (h : PlcB w g a b c) (x : Int) : PlcB (w.setCell ⟨g, 2, none⟩ (.int .i64 x)) g a b x := by
  have h' : w.heap[g]? = _ := h
  simp [PlcB, World.setCell, Array.getElem?_modify, h']
theorem PlcB.other {w : World} {g g2 i : Nat} {a b c : Int} {v : Value} (h : PlcB w g a b c) (hn : g ≠ g2) : PlcB (w.setCell ⟨g2, i, none⟩ v) g a b c := (Below.heap_setCell _ _ _ _ hn).trans h
theorem PlcB.new (w : World) (X : Obj) (a b c : Int) : PlcB ((w.alloc X).alloc (.cells #[.int .i64 a, .int .i64 b, .int .i64 c] 30)) (w.heap.size + 1) a b c := by
  have := heap_alloc_new (w.alloc X) (.cells #[.int .i64 a, .int .i64 b, .int .i64 c] 30 (0, 0))
  unfold PlcB
  rw [show w.heap.size + 1 = (w.alloc X).heap.size from by simp]
  exact this
theorem PlcB.old (w : World) (X : Obj) (a b c : Int) : PlcB ((w.alloc (.cells #[.int .i64 a, .int .i64 b, .int .i64 c] 30)).alloc X) w.heap.size a b c :=
  (((Below.refl _ _).alloc (Nat.le_refl _) _ : Below _ _ ((w.alloc (.cells #[.int .i64 a, .int .i64 b, .int .i64 c] 30)).alloc X)).block w.heap.size (by simp)).trans (heap_alloc_new w _)
theorem ret_place6 {W2 : World} {g : Nat} {a b c : Int} {T : Array Value} (h : PlcB W2 g a b c) (h4 : T[4]?.getD undef = .pointer (some ⟨g, 0, none⟩)) : (results Tryz.f8 T).run Tryz.prog W2 = .ok (.agg #[.int .i64 a, .int .i64 b, .int .i64 c]) W2 := by
  obtain ⟨d0, d1, d2⟩ := h.cells
  simp [results, Tryz.results8, go_sem, h4, d0, d1, d2]
set_option maxRecDepth 100000 in
set_option maxHeartbeats 2000000 in
theorem rAt_any {w : World} {v : Value} {zs : List Nat} {x : Int} (hs : Sl w v zs) (hl : zs.length ≤ 140737488355328) :
    Calls Tryz.prog 8 #[v, .int .i64 x] w fun e w' => e = .returned (Sy.placeV zs (Sy.clampN x zs.length)) ∧ Below w.heap.size w w' := by
  have hle : Sy.clampN x zs.length ≤ zs.length := by unfold Sy.clampN; split <;> (try split) <;> omega
  have HS : Hid (∀ i, i < zs.length → ∃ b o c, v = .slice (some ⟨b, o, none⟩) zs.length c ∧ w.cell? ⟨b, o + i, none⟩ = some (.int .u8 (zs.getD i 0 : Nat))) := fun i hi => by
    obtain ⟨b, o, c, rfl, _, _, _, h4⟩ := hs.pos (by omega)
    exact ⟨b, o, c, rfl, h4 i hi⟩
  obtain ⟨ao, cap, rfl, y1, y2, y3, y4, y5⟩ := hs
  clear y1 y2 y3 y4 y5
  unfold Sy.placeV
  obtain ⟨N, hN⟩ : ∃ N, zs.length = N := ⟨_, rfl⟩
  by_cases hx0 : x < 0
  · have hcl : Sy.clampN x zs.length = 0 := by unfold Sy.clampN; rw [if_pos hx0]
    rw [hcl]
    have hxa : ¬ (N : Int) < 0 := by omega
    rw [hN]
    clear hcl hle hl hN HS
    go_enter Tryz.func8, Tryz.ntmps8
    go_wp2_with fail
    go_loopw [6] (fun iv wr => iv = .int .i64 0 ∧ Hid (PlcB wr w.heap.size 0 0 0) ∧ Hid (PlcB wr (w.heap.size + 1) 0 1 1) ∧ Hid (Below w.heap.size w wr)) (fun _ _ => 0)
    case atStart => exact ⟨rfl, PlcB.old _ _ _ _ _, PlcB.new _ _ _ _ _, ((Below.refl _ _).alloc (Nat.le_refl _) _).alloc (by simp) _⟩
    case round =>
      obtain ⟨rfl, HZ, HP, HB⟩ := hrel
      obtain ⟨c0, c1, c2⟩ := HP.out.cells
      have hp : wr.heap[w.heap.size + 1]? = _ := HP.out
      obtain ⟨d0, d1, d2⟩ := HZ.out.cells
      have hz0 : wr.heap[w.heap.size]? = _ := HZ.out
      have g0 := HZ.out.thawed 0
      have g1 := HZ.out.thawed 1
      have g2 := HZ.out.thawed 2
      go_wp2_with fail
      refine bodyPost_ret (v := .agg #[.int .i64 0, .int .i64 1, .int .i64 1]) (ret_place6 (g := w.heap.size) (((HZ.out.set0 _).set1 _).set2 _) rfl) rfl ?_
      exact ⟨rfl, ((HB.out.setCell (by simp) _).setCell (by simp) _).setCell (by simp) _⟩
  · by_cases hxn : (zs.length : Int) < x
    · have hcl : Sy.clampN x zs.length = N := by unfold Sy.clampN; rw [if_neg hx0, if_pos hxn, hN]
      rw [hcl] at hle ⊢
      rw [hN] at hxn
      have hxa : (N : Int) < x := hxn
      clear hcl
      have HNn : Hid (zs.length = N) := hN
      have hlN : N ≤ 140737488355328 := by omega
      have HNl : Hid (N ≤ N ∧ N ≤ 140737488355328) := ⟨by omega, by omega⟩
      rw [hN]
      go_enter Tryz.func8, Tryz.ntmps8
      go_wp2_with fail
      go_loopw [6] (fun iv wr => ∃ k : Nat, k ≤ N ∧ iv = .int .i64 (k : Int) ∧ Hid (PlcB wr w.heap.size 0 0 0) ∧ Hid (PlcB wr (w.heap.size + 1) N (1 + (Sy.cntN (zs.take k) : Int)) ((k : Int) - Sy.lastN (zs.take k))) ∧ Hid (Below w.heap.size w wr)) (fun iv _ => N - (intOf iv).toNat)
      case atStart => exact ⟨0, Nat.zero_le _, rfl, PlcB.old _ _ _ _ _, PlcB.new _ _ _ _ _, ((Below.refl _ _).alloc (Nat.le_refl _) _).alloc (by simp) _⟩
      case round =>
        obtain ⟨k, hk, rfl, HZ, HP, HB⟩ := hrel
        obtain ⟨c0, c1, c2⟩ := HP.out.cells
        have hp : wr.heap[w.heap.size + 1]? = _ := HP.out
        clear hN hlN hle hl hxn
        by_cases hlt : k < N
        · obtain ⟨b, o, c, hv, hc⟩ := HS.out k (by have := HNl.out; have := HNn.out; omega)
          simp only [Value.slice.injEq] at hv
          obtain ⟨rfl, y0, rfl⟩ := hv
          clear y0
          have hc' : wr.cell? ⟨b, o + k, none⟩ = some (.int .u8 (zs.getD k 0 : Nat)) := (HB.out.cell (p := ⟨b, o + k, none⟩) (World.block_lt_of_cell? w _ hc)).trans hc
          have f1 := HP.out.thawed 1
          have f2 := HP.out.thawed 2
          have hcs := Sy.cnt_snoc (zs.take k) (zs.getD k 0)
          have hls := Sy.last_snoc (zs.take k) (zs.getD k 0)
          rw [← Sy.take_snoc (show k < zs.length by have := HNl.out; have := HNn.out; omega)] at hcs hls
          rw [List.length_take, Nat.min_eq_left (by have := HNl.out; have := HNn.out; omega)] at hls
          have HCs := Lib.hid hcs
          have HLs := Lib.hid hls
          have hcb := Sy.cnt_le (zs.take k)
          have hlb := Sy.last_range (zs.take k)
          rw [List.length_take, Nat.min_eq_left (by have := HNl.out; have := HNn.out; omega)] at hcb hlb
          have ik : (k : Int) < (N : Int) := by omega
          have ik2 : (k : Int) < (N : Int) := by omega
          have ik0 : (0 : Int) ≤ (k : Int) := by omega
          have hcw := hc
          clear hc hcs hls HS
          generalize zs.getD k 0 = z at *
          generalize Sy.cntN (zs.take k) = C at *
          generalize Sy.lastN (zs.take k) = L at *
          have k1 : wrap64 ((k : Int) - L + 1) = (k : Int) - L + 1 := by have := HNl.out; unfold wrap64; omega
          have k2 : wrap64 (1 + (C : Int) + 1) = 1 + (C : Int) + 1 := by have := HNl.out; unfold wrap64; omega
          have hbl := World.block_lt_of_cell? w _ hcw
          have hq : (wr.setCell ⟨w.heap.size + 1, 2, none⟩ (.int .i64 ((k : Int) - L + 1))).cell? ⟨b, o + k, none⟩ = some (.int .u8 (z : Nat)) := by
            rw [World.cell?_of_block (w := wr) (a := ⟨b, o + k, none⟩) (Below.heap_setCell _ _ _ _ (by simp only at hbl ⊢; omega))]
            exact hc'
          clear hcb hlb hcw hbl
          have hw : wrap64 ((k : Int) + 1) = ((k + 1 : Nat) : Int) := by have := HNl.out; unfold wrap64; omega
          by_cases hz : z = 10
          · subst hz
            have e1 : (1 : Int) + ((Sy.cntN (zs.take (k + 1)) : Nat) : Int) = 1 + (C : Int) + 1 := by rw [HCs.out, if_pos rfl]; omega
            have e2 : ((k + 1 : Nat) : Int) - Sy.lastN (zs.take (k + 1)) = 1 := by rw [HLs.out, if_pos rfl]; omega
            have HX := Lib.hid (And.intro e1 e2)
            clear e1 e2
            go_wp2_with fail
            rw [hw]
            refine ⟨⟨k + 1, by omega, rfl, ?_, ?_, ?_⟩, by simp only [intOf, Int.toNat_natCast]; omega⟩
            · exact ((HZ.out.other (by omega)).other (by omega)).other (by omega)
            · show PlcB _ _ _ _ _
              rw [HX.out.1, HX.out.2]
              exact ((HP.out.set2 _).set1 _).set2 1
            · exact ((HB.out.setCell (by simp) _).setCell (by simp) _).setCell (by simp) _
          · have ez : ((z : Int) == 10) = false := beq_eq_false_iff_ne.2 (by omega)
            have e1 : (1 : Int) + ((Sy.cntN (zs.take (k + 1)) : Nat) : Int) = 1 + (C : Int) := by rw [HCs.out, if_neg hz]; omega
            have e2 : ((k + 1 : Nat) : Int) - Sy.lastN (zs.take (k + 1)) = (k : Int) - L + 1 := by rw [HLs.out, if_neg hz]; omega
            have HX := Lib.hid (And.intro e1 e2)
            clear e1 e2
            go_wp2_with fail
            rw [hw]
            refine ⟨⟨k + 1, by omega, rfl, ?_, ?_, ?_⟩, by simp only [intOf, Int.toNat_natCast]; omega⟩
            · exact HZ.out.other (by omega)
            · show PlcB _ _ _ _ _
              rw [HX.out.1, HX.out.2]
              exact HP.out.set2 _
            · exact HB.out.setCell (by simp) _
        · obtain rfl : k = N := by omega
          have ik : ¬ (k : Int) < (k : Int) := by omega
          obtain ⟨d0, d1, d2⟩ := HZ.out.cells
          have hz0 : wr.heap[w.heap.size]? = _ := HZ.out
          have g0 := HZ.out.thawed 0
          have g1 := HZ.out.thawed 1
          have g2 := HZ.out.thawed 2
          clear HS hk hlt
          obtain ⟨C, hC⟩ : ∃ C, Sy.cntN (zs.take k) = C := ⟨_, rfl⟩
          obtain ⟨L, hL⟩ : ∃ L, Sy.lastN (zs.take k) = L := ⟨_, rfl⟩
          have HCL : Hid (Sy.cntN (zs.take k) = C ∧ Sy.lastN (zs.take k) = L) := ⟨hC, hL⟩
          rw [hC, hL] at HP hp
          rw [hC] at c1
          rw [hL] at c2
          clear hC hL
          go_wp2_with fail
          refine bodyPost_ret (v := .agg #[.int .i64 (k : Int), .int .i64 (1 + (C : Int)), .int .i64 ((k : Int) - L)]) (ret_place6 (g := w.heap.size) (((HZ.out.set0 _).set1 _).set2 _) rfl) rfl ?_
          refine ⟨?_, ((HB.out.setCell (by simp) _).setCell (by simp) _).setCell (by simp) _⟩
          rw [HCL.out.1, HCL.out.2]
    · obtain ⟨a, rfl⟩ : ∃ a : Nat, x = (a : Int) := ⟨x.toNat, by omega⟩
      have hcl : Sy.clampN (a : Int) zs.length = a := by unfold Sy.clampN; rw [if_neg hx0, if_neg hxn]; omega
      rw [hcl] at hle ⊢
      rw [hN] at hxn
      have hxa : ¬ (N : Int) < (a : Int) := hxn
      clear hcl
      have HNn : Hid (zs.length = N) := hN
      have hlN : N ≤ 140737488355328 := by omega
      have HNl : Hid (a ≤ N ∧ N ≤ 140737488355328) := ⟨by omega, by omega⟩
      rw [hN]
      go_enter Tryz.func8, Tryz.ntmps8
      go_wp2_with fail
      go_loopw [6] (fun iv wr => ∃ k : Nat, k ≤ a ∧ iv = .int .i64 (k : Int) ∧ Hid (PlcB wr w.heap.size 0 0 0) ∧ Hid (PlcB wr (w.heap.size + 1) a (1 + (Sy.cntN (zs.take k) : Int)) ((k : Int) - Sy.lastN (zs.take k))) ∧ Hid (Below w.heap.size w wr)) (fun iv _ => a - (intOf iv).toNat)
      case atStart => exact ⟨0, Nat.zero_le _, rfl, PlcB.old _ _ _ _ _, PlcB.new _ _ _ _ _, ((Below.refl _ _).alloc (Nat.le_refl _) _).alloc (by simp) _⟩
      case round =>
        obtain ⟨k, hk, rfl, HZ, HP, HB⟩ := hrel
        obtain ⟨c0, c1, c2⟩ := HP.out.cells
        have hp : wr.heap[w.heap.size + 1]? = _ := HP.out
        clear hN hlN hle hl hxn
        by_cases hlt : k < a
        · obtain ⟨b, o, c, hv, hc⟩ := HS.out k (by have := HNl.out; have := HNn.out; omega)
          simp only [Value.slice.injEq] at hv
          obtain ⟨rfl, y0, rfl⟩ := hv
          clear y0
          have hc' : wr.cell? ⟨b, o + k, none⟩ = some (.int .u8 (zs.getD k 0 : Nat)) := (HB.out.cell (p := ⟨b, o + k, none⟩) (World.block_lt_of_cell? w _ hc)).trans hc
          have f1 := HP.out.thawed 1
          have f2 := HP.out.thawed 2
          have hcs := Sy.cnt_snoc (zs.take k) (zs.getD k 0)
          have hls := Sy.last_snoc (zs.take k) (zs.getD k 0)
          rw [← Sy.take_snoc (show k < zs.length by have := HNl.out; have := HNn.out; omega)] at hcs hls
          rw [List.length_take, Nat.min_eq_left (by have := HNl.out; have := HNn.out; omega)] at hls
          have HCs := Lib.hid hcs
          have HLs := Lib.hid hls
          have hcb := Sy.cnt_le (zs.take k)
          have hlb := Sy.last_range (zs.take k)
          rw [List.length_take, Nat.min_eq_left (by have := HNl.out; have := HNn.out; omega)] at hcb hlb
          have ik : (k : Int) < (a : Int) := by omega
          have ik2 : (k : Int) < (N : Int) := by omega
          have ik0 : (0 : Int) ≤ (k : Int) := by omega
          have hcw := hc
          clear hc hcs hls HS
          generalize zs.getD k 0 = z at *
          generalize Sy.cntN (zs.take k) = C at *
          generalize Sy.lastN (zs.take k) = L at *
          have k1 : wrap64 ((k : Int) - L + 1) = (k : Int) - L + 1 := by have := HNl.out; unfold wrap64; omega
          have k2 : wrap64 (1 + (C : Int) + 1) = 1 + (C : Int) + 1 := by have := HNl.out; unfold wrap64; omega
          have hbl := World.block_lt_of_cell? w _ hcw
          have hq : (wr.setCell ⟨w.heap.size + 1, 2, none⟩ (.int .i64 ((k : Int) - L + 1))).cell? ⟨b, o + k, none⟩ = some (.int .u8 (z : Nat)) := by
            rw [World.cell?_of_block (w := wr) (a := ⟨b, o + k, none⟩) (Below.heap_setCell _ _ _ _ (by simp only at hbl ⊢; omega))]
            exact hc'
          clear hcb hlb hcw hbl
          have hw : wrap64 ((k : Int) + 1) = ((k + 1 : Nat) : Int) := by have := HNl.out; unfold wrap64; omega
          by_cases hz : z = 10
          · subst hz
            have e1 : (1 : Int) + ((Sy.cntN (zs.take (k + 1)) : Nat) : Int) = 1 + (C : Int) + 1 := by rw [HCs.out, if_pos rfl]; omega
            have e2 : ((k + 1 : Nat) : Int) - Sy.lastN (zs.take (k + 1)) = 1 := by rw [HLs.out, if_pos rfl]; omega
            have HX := Lib.hid (And.intro e1 e2)
            clear e1 e2
            go_wp2_with fail
            rw [hw]
            refine ⟨⟨k + 1, by omega, rfl, ?_, ?_, ?_⟩, by simp only [intOf, Int.toNat_natCast]; omega⟩
            · exact ((HZ.out.other (by omega)).other (by omega)).other (by omega)
            · show PlcB _ _ _ _ _
              rw [HX.out.1, HX.out.2]
              exact ((HP.out.set2 _).set1 _).set2 1
            · exact ((HB.out.setCell (by simp) _).setCell (by simp) _).setCell (by simp) _
          · have ez : ((z : Int) == 10) = false := beq_eq_false_iff_ne.2 (by omega)
            have e1 : (1 : Int) + ((Sy.cntN (zs.take (k + 1)) : Nat) : Int) = 1 + (C : Int) := by rw [HCs.out, if_neg hz]; omega
            have e2 : ((k + 1 : Nat) : Int) - Sy.lastN (zs.take (k + 1)) = (k : Int) - L + 1 := by rw [HLs.out, if_neg hz]; omega
            have HX := Lib.hid (And.intro e1 e2)
            clear e1 e2
            go_wp2_with fail
            rw [hw]
            refine ⟨⟨k + 1, by omega, rfl, ?_, ?_, ?_⟩, by simp only [intOf, Int.toNat_natCast]; omega⟩
            · exact HZ.out.other (by omega)
            · show PlcB _ _ _ _ _
              rw [HX.out.1, HX.out.2]
              exact HP.out.set2 _
            · exact HB.out.setCell (by simp) _
        · obtain rfl : k = a := by omega
          have ik : ¬ (k : Int) < (k : Int) := by omega
          obtain ⟨d0, d1, d2⟩ := HZ.out.cells
          have hz0 : wr.heap[w.heap.size]? = _ := HZ.out
          have g0 := HZ.out.thawed 0
          have g1 := HZ.out.thawed 1
          have g2 := HZ.out.thawed 2
          clear HS hk hlt
          obtain ⟨C, hC⟩ : ∃ C, Sy.cntN (zs.take k) = C := ⟨_, rfl⟩
          obtain ⟨L, hL⟩ : ∃ L, Sy.lastN (zs.take k) = L := ⟨_, rfl⟩
          have HCL : Hid (Sy.cntN (zs.take k) = C ∧ Sy.lastN (zs.take k) = L) := ⟨hC, hL⟩
          rw [hC, hL] at HP hp
          rw [hC] at c1
          rw [hL] at c2
          clear hC hL
          go_wp2_with fail
          refine bodyPost_ret (v := .agg #[.int .i64 (k : Int), .int .i64 (1 + (C : Int)), .int .i64 ((k : Int) - L)]) (ret_place6 (g := w.heap.size) (((HZ.out.set0 _).set1 _).set2 _) rfl) rfl ?_
          refine ⟨?_, ((HB.out.setCell (by simp) _).setCell (by simp) _).setCell (by simp) _⟩
          rw [HCL.out.1, HCL.out.2]
end Go.Proofs.YtmkibolkcjallaaGreatDoor
