/- SpanAll's loop over All: its code (as the seat prints it), what a run of it leaves (made by gen_spal2.py). Own work. -/
import Derived.Test.YtabgmlnlooiddaaSpAl1U64
import Derived.Test.YtabgmlnlooiddaaSpAllU64
namespace Go.Proofs.Ytabgmlnlooiddaa
open Go.RowKit Go.Shelf Go.Proofs.Ytabgmlnlooiddaa.Sp
attribute [local go_sem] Oper.semAt_some
/-- a block of one cell -/
def OneC (w : World) (b : Nat) (t : TypeId) (v : Value) : Prop := w.heap[b]? = some (.cells #[v] t (0, 0))
theorem OneC.lt {w : World} {b : Nat} {t : TypeId} {v : Value} (h : OneC w b t v) : b < w.heap.size := (Array.getElem?_eq_some_iff.1 h).1
theorem OneC.below {w w' : World} {b : Nat} {t : TypeId} {v : Value} (h : OneC w b t v) (hb : Below w.heap.size w w') : OneC w' b t v := (hb.block b h.lt).trans h
theorem OneC.alloc {w : World} {b : Nat} {t : TypeId} {v : Value} (h : OneC w b t v) (o : Obj) : OneC (w.alloc o) b t v := h.below ((Below.refl _ _).alloc (Nat.le_refl _) _)
theorem OneC.cell {w : World} {b : Nat} {t : TypeId} {v : Value} (h : OneC w b t v) : w.cell? ⟨b, 0, none⟩ = some v := by
  rw [cell_of_row w b _ _ _ _ h]; rfl
theorem OneC.thawed {w : World} {b : Nat} {t : TypeId} {v : Value} (h : OneC w b t v) : w.frozen? ⟨b, 0, none⟩ = false := by
  simp [World.frozen?, show w.heap[b]? = _ from h]
theorem OneC.set {w : World} {b : Nat} {t : TypeId} {v : Value} (h : OneC w b t v) (v' : Value) : OneC (w.setCell ⟨b, 0, none⟩ v') b t v' := by
  have h' : w.heap[b]? = _ := h
  simp [OneC, World.setCell, Array.getElem?_modify, h']
theorem OneC.other {w : World} {b : Nat} {t : TypeId} {v : Value} (h : OneC w b t v) {b' : Nat} (hb : b ≠ b') (x : Value) : OneC (w.setCell ⟨b', 0, none⟩ x) b t v := (Below.heap_setCell w _ _ _ hb).trans h
theorem OneC.low {n : Nat} {w w' : World} {b : Nat} {t : TypeId} {v : Value} (h : OneC w b t v) (hb : Below n w w') (hn : b < n) : OneC w' b t v := (hb.block b hn).trans h
theorem neq_span2 (w : World) (x y : Sp) (b : Bool) (h : (decide (x ≠ y)) = b) : (binOp .neq 35 (.agg #[.int .u64 x.1, .int .u64 x.2]) (.agg #[.int .u64 y.1, .int .u64 y.2])).run Try.prog w = .ok (.bool b) w := by
  subst h
  obtain ⟨a, c⟩ := x
  obtain ⟨a', c'⟩ := y
  have u := Try.underlying28
  have a2 := Try.isAgg28
  have z := Try.sizeOf28
  have hS : Try.prog.underlying 35 = some (.struct (Try.prog.fieldsOf 35)) := by kernel_rfl
  have hp : Try.prog.stoodInHeld 35 = false := by kernel_rfl
  rw [run_neq_struct, show (10000 : Nat) = 9999 + 1 from rfl, run_equalIn_agg w 9999 35 _ _ hS hp]
  simp only [Program.fieldsOf, Try.underlying35]
  go_simp
  by_cases h1 : a = a' <;> by_cases h2 : c = c' <;> simp [h1, h2]
def DefC (w : World) (D : Nat) : Prop := w.heap[D]? = some (.deferred (some []))
theorem DefC.lt {w : World} {D : Nat} (h : DefC w D) : D < w.heap.size := (Array.getElem?_eq_some_iff.1 h).1
theorem DefC.below {w w' : World} {D : Nat} (h : DefC w D) (hb : Below w.heap.size w w') : DefC w' D := (hb.block D h.lt).trans h
theorem DefC.ne {w : World} {D b : Nat} {t : TypeId} {v : Value} (h : DefC w D) (h1 : OneC w b t v) : D ≠ b := fun e => by
  subst e
  rw [DefC, show w.heap[D]? = _ from h1] at h
  cases h
theorem OneC.grown {W W' : World} {b B : Nat} {t : TypeId} {v : Value} {row : Option Nat} (h1 : OneC W b t v) (hg : W.grownBy W' row) (hr : ∀ r, row = some r → B ≤ r ∧ ∃ o : Obj, W.heap[r]? = some o ∧ o.isCells = false) : OneC W' b t v :=
  (hg.block b h1.lt (fun e => by obtain ⟨_, o, ho, hc⟩ := hr b e.symm; rw [show W.heap[b]? = _ from h1] at ho; cases ho; cases hc)).trans h1
/-- what lies behind the boxes of want and n: i, the set that All has kept, round; and what the loops before have left -/
def Cells (W6 W : World) (q i rd : Nat) (r : Int) (v : Value) (Dl : List Nat) : Prop := OneC W (q + 2) 3 (.int .i64 (i : Int)) ∧ OneC W (q + 3) 26 v ∧ OneC W rd 3 (.int .i64 r) ∧ Below (q + 2) W6 W ∧ q + 5 ≤ W.heap.size ∧ q + 3 < rd ∧ ∀ d ∈ Dl, DefC W d
theorem Cells.grown {W6 W W' : World} {q i rd B : Nat} {r : Int} {v : Value} {Dl : List Nat} {row : Option Nat} (h : Cells W6 W q i rd r v Dl) (hB : q + 2 ≤ B) (hD : ∀ d ∈ Dl, d < B) (hg : W.grownBy W' row) (hr : ∀ r, row = some r → B ≤ r ∧ ∃ o : Obj, W.heap[r]? = some o ∧ o.isCells = false) : Cells W6 W' q i rd r v Dl :=
  ⟨h.1.grown hg hr, h.2.1.grown hg hr, h.2.2.1.grown hg hr, h.2.2.2.1.grown hg (by have := h.2.2.2.2.1; omega) (fun j e => Nat.le_trans hB (hr j e).1), Nat.le_trans h.2.2.2.2.1 hg.size, h.2.2.2.2.2.1, fun d hd => (hg.block d (h.2.2.2.2.2.2 d hd).lt (fun e => by have := (hr d e.symm).1; have := hD d hd; omega)).trans (h.2.2.2.2.2.2 d hd)⟩
theorem Cells.alloc {W6 W : World} {q i rd : Nat} {r : Int} {v : Value} {Dl : List Nat} (h : Cells W6 W q i rd r v Dl) (o : Obj) : Cells W6 (W.alloc o) q i rd r v Dl :=
  ⟨h.1.alloc _, h.2.1.alloc _, h.2.2.1.alloc _, h.2.2.2.1.alloc (by have := h.2.2.2.2.1; omega) _, by have := h.2.2.2.2.1; simp; omega, h.2.2.2.2.2.1, fun d hd => (h.2.2.2.2.2.2 d hd).below ((Below.refl _ _).alloc (Nat.le_refl _) _)⟩
theorem Cells.drew {W6 W : World} {q i rd : Nat} {r : Int} {v : Value} {Dl : List Nat} (h : Cells W6 W q i rd r v Dl) : Cells W6 W.drew q i rd r v Dl := ⟨h.1, h.2.1, h.2.2.1, h.2.2.2.1.drew, h.2.2.2.2⟩
theorem Cells.step {W6 W : World} {q i rd : Nat} {r : Int} {v : Value} {Dl : List Nat} (h : Cells W6 W q i rd r v Dl) (j : Nat) : Cells W6 (W.setCell ⟨q + 2, 0, none⟩ (.int .i64 (j : Int))) q j rd r v Dl :=
  ⟨h.1.set _, h.2.1.other (by omega) _, h.2.2.1.other (by have := h.2.2.2.2.2.1; omega) _, h.2.2.2.1.setCell (p := ⟨q + 2, 0, none⟩) (Nat.le_refl _) _, by simpa using h.2.2.2.2.1, h.2.2.2.2.2.1, fun d hd => (Below.heap_setCell W _ _ _ ((h.2.2.2.2.2.2 d hd).ne h.1)).trans (h.2.2.2.2.2.2 d hd)⟩
def TwoC (w : World) (b : Nat) (x : Sp) : Prop := w.heap[b]? = some (.cells #[.int .u64 x.1, .int .u64 x.2] 35 (0, 0))
theorem TwoC.lt {w : World} {b : Nat} {x : Sp} (h : TwoC w b x) : b < w.heap.size := (Array.getElem?_eq_some_iff.1 h).1
theorem TwoC.cells {w : World} {b : Nat} {x : Sp} (h : TwoC w b x) : w.cell? ⟨b, 0, none⟩ = some (.int .u64 x.1) ∧ w.cell? ⟨b, 1, none⟩ = some (.int .u64 x.2) := by
  refine ⟨?_, ?_⟩ <;> rw [cell_of_row w b _ _ _ _ h] <;> rfl
def Good (rs pre : List Sp) : Prop := pre = rs.take pre.length
theorem good_next {rs pre : List Sp} {x : Sp} (h : Good rs pre) (hl : pre.length < rs.length) (hx : x = rs[pre.length]) : Good rs (pre ++ [x]) := by
  unfold Good at *
  rw [List.length_append, List.length_singleton, List.take_succ_eq_append_getElem hl, ← h, hx]
theorem not_good {rs pre : List Sp} {x : Sp} (h : Good rs pre) (hl : pre.length < rs.length) (hx : x ≠ rs[pre.length]) : ¬ Good rs (pre ++ [x]) := fun hg => by
  unfold Good at *
  rw [List.length_append, List.length_singleton, List.take_succ_eq_append_getElem hl, ← h] at hg
  have := List.append_cancel_left hg
  simp at this
  exact hx this
theorem good_take {rs : List Sp} {k : Nat} (hk : k ≤ rs.length) : Good rs (rs.take k) := by
  unfold Good
  rw [List.length_take, Nat.min_eq_left hk]
def theRange : Code :=
  (Code.rangeFunc (Operand.tmp 41) #[42]
        (Code.region 17
          #[{ dst := some 13, op := Op.alloc 35, type := 0, pos := "outright.go:218", after := #[], guard := none },
            { dst := none, op := Op.store 35 (Operand.tmp 13) (Operand.tmp 42), type := 0, pos := "outright.go:218",
              after := #[{ on := 0, ground := Ground.data }, { on := 0, ground := Ground.phase }], guard := none }]
          false)
        (Code.block 3
          (((Code.region 18
                    #[{ dst := some 43, op := Op.load 3 (Operand.tmp 10), type := 3, pos := "outright.go:219",
                        after := #[], guard := none },
                      { dst := some 44, op := Op.load 24 (Operand.tmp 8), type := 24, pos := "outright.go:219",
                        after := #[], guard := none },
                      { dst := some 45,
                        op :=
                          Op.call { callee := Callee.builtin Builtin.len, args := #[Operand.tmp 44], argTypes := #[24] },
                        type := 3, pos := "outright.go:219", after := #[{ on := 1, ground := Ground.data }],
                        guard := none },
                      { dst := some 46, op := Op.binOp BinOp.geq 3 (Operand.tmp 43) (Operand.tmp 45) 3, type := 4,
                        pos := "outright.go:219",
                        after := #[{ on := 0, ground := Ground.data }, { on := 2, ground := Ground.data }],
                        guard := none },
                      { dst := some 47, op := Op.move (Operand.tmp 46), type := 4, pos := "outright.go:219",
                        after := #[{ on := 3, ground := Ground.data }], guard := none },
                      { dst := some 48, op := Op.load 35 (Operand.tmp 13), type := 35, pos := "outright.go:219",
                        after := #[{ on := 4, ground := Ground.guard }], guard := some (4, false) },
                      { dst := some 49, op := Op.load 24 (Operand.tmp 8), type := 24, pos := "outright.go:219",
                        after := #[{ on := 4, ground := Ground.guard }], guard := some (4, false) },
                      { dst := some 50, op := Op.load 3 (Operand.tmp 10), type := 3, pos := "outright.go:219",
                        after := #[{ on := 4, ground := Ground.guard }], guard := some (4, false) },
                      { dst := some 51, op := Op.indexAddr 24 (Operand.tmp 49) (Operand.tmp 50), type := 0,
                        pos := "outright.go:219",
                        after :=
                          #[{ on := 6, ground := Ground.data }, { on := 7, ground := Ground.data },
                            { on := 4, ground := Ground.guard }],
                        guard := some (4, false) },
                      { dst := some 52, op := Op.load 35 (Operand.tmp 51), type := 35, pos := "outright.go:219",
                        after := #[{ on := 8, ground := Ground.data }, { on := 4, ground := Ground.guard }],
                        guard := some (4, false) },
                      { dst := some 53, op := Op.binOp BinOp.neq 35 (Operand.tmp 48) (Operand.tmp 52) 35, type := 4,
                        pos := "outright.go:219",
                        after :=
                          #[{ on := 5, ground := Ground.data }, { on := 9, ground := Ground.data },
                            { on := 4, ground := Ground.guard }],
                        guard := some (4, false) },
                      { dst := some 54, op := Op.pick (Operand.tmp 47) (Operand.const (Value.bool true)) (Operand.tmp 53),
                        type := 4, pos := "outright.go:219",
                        after := #[{ on := 4, ground := Ground.data }, { on := 10, ground := Ground.data }],
                        guard := none }]
                    true).seq
                (Code.cond (Operand.tmp 54)
                  ((Code.region 19
                        #[{ dst := none, op := Op.store 4 (Operand.tmp 6) (Operand.const (Value.bool false)), type := 0,
                            pos := "outright.go:220", after := #[], guard := none }]
                        false).seq
                    Code.ret)
                  Code.skip)).seq
            ((Code.region 20
                  #[{ dst := some 55, op := Op.load 3 (Operand.tmp 10), type := 3, pos := "outright.go:222", after := #[],
                      guard := none },
                    { dst := some 56,
                      op := Op.binOp BinOp.add 3 (Operand.tmp 55) (Operand.const (Value.int IntKind.i64 1)) 3, type := 3,
                      pos := "outright.go:222", after := #[{ on := 0, ground := Ground.data }], guard := none },
                    { dst := none, op := Op.store 3 (Operand.tmp 10) (Operand.tmp 56), type := 0,
                      pos := "outright.go:222",
                      after :=
                        #[{ on := 1, ground := Ground.data }, { on := 0, ground := Ground.phase },
                          { on := 1, ground := Ground.phase }],
                      guard := none }]
                  false).seq
              ((Code.region 21
                    #[{ dst := some 57, op := Op.load 3 (Operand.tmp 12), type := 3, pos := "outright.go:223",
                        after := #[], guard := none },
                      { dst := some 58,
                        op := Op.binOp BinOp.eql 3 (Operand.tmp 57) (Operand.const (Value.int IntKind.i64 0)) 3,
                        type := 4, pos := "outright.go:223", after := #[{ on := 0, ground := Ground.data }],
                        guard := none },
                      { dst := some 59, op := Op.move (Operand.tmp 58), type := 4, pos := "outright.go:223",
                        after := #[{ on := 1, ground := Ground.data }], guard := none },
                      { dst := some 60, op := Op.load 3 (Operand.tmp 10), type := 3, pos := "outright.go:223",
                        after := #[{ on := 2, ground := Ground.guard }], guard := some (2, true) },
                      { dst := some 61, op := Op.load 3 (Operand.tmp 9), type := 3, pos := "outright.go:223",
                        after := #[{ on := 2, ground := Ground.guard }], guard := some (2, true) },
                      { dst := some 62, op := Op.binOp BinOp.eql 3 (Operand.tmp 60) (Operand.tmp 61) 3, type := 4,
                        pos := "outright.go:223",
                        after :=
                          #[{ on := 3, ground := Ground.data }, { on := 4, ground := Ground.data },
                            { on := 2, ground := Ground.guard }],
                        guard := some (2, true) },
                      { dst := some 63,
                        op := Op.pick (Operand.tmp 59) (Operand.tmp 62) (Operand.const (Value.bool false)), type := 4,
                        pos := "outright.go:223",
                        after := #[{ on := 2, ground := Ground.data }, { on := 5, ground := Ground.data }],
                        guard := none }]
                    false).seq
                (Code.cond (Operand.tmp 63) (Code.exit 2) Code.skip))))))
set_option maxRecDepth 100000 in
set_option maxHeartbeats 8000000 in
theorem range_any {W6 W7 : World} {q n N c3 c4 rb rd : Nat} {a3 a4 : Option Addr} {rs : List Sp} {r : Int} {Dl : List Nat} {u0 u1 u2 u3 u4 u5 u7 u11 u13 u14 u15 u16 u17 u18 u19 u20 u21 u22 u23 u24 u25 u26 u27 u28 u29 u30 u31 u32 u33 u34 u35 u36 u37 u38 u39 u40 u42 u43 u44 u45 u46 u47 u48 u49 u50 u51 u52 u53 u54 u55 u56 u57 u58 u59 u60 u61 u62 u63 u64 u65 u66 u67 u68 u69 u70 u71 u72 u73 u74 u75 u76 u77 u78 u79 u80 u81 u82 u83 u84 u85 u86 u87 u88 : Value} {ds : List Deferred} {Q : Exit → Act → World → Prop}
    (hr01 : r = 0 ∨ r = 1) (hN : N = rs.length) (hN1 : N ≤ 1073741827) (hn : 1 ≤ n ∧ n ≤ N) (HC : Cells W6 W7 q 0 rd r (.slice a3 N c3) Dl) (hDl : ∀ d ∈ Dl, d < W7.heap.size)
    (hWs : U64.SpansAt (q + 2) W6 (.slice a3 N c3) rs ∧ U64.SpansAt (q + 2) W6 (.slice a4 N c4) rs) (hWb : OneC W6 q 24 (.slice a4 N c4)) (hNb : OneC W6 (q + 1) 3 (.int .i64 (n : Int))) (hRb : OneC W6 rb 4 (.bool false)) (hrb : rb < q)
    (hdone : r = 1 → ∀ D W, W7.heap.size ≤ D → Cells W6 W q N rd r (.slice a3 N c3) Dl → DefC W D → Q .normal { tmps := #[u0, u1, u2, u3, u4, u5, .pointer (some ⟨rb, 0, none⟩), u7, .pointer (some ⟨q, 0, none⟩), .pointer (some ⟨q + 1, 0, none⟩), .pointer (some ⟨q + 2, 0, none⟩), u11, .pointer (some ⟨rd, 0, none⟩), u13, u14, u15, u16, u17, u18, u19, u20, u21, u22, u23, u24, u25, u26, u27, u28, u29, u30, u31, u32, u33, u34, u35, u36, u37, u38, u39, u40, .func (.func 15) #[] #[.pointer (some ⟨q + 3, 0, none⟩)], u42, u43, u44, u45, u46, u47, u48, u49, u50, u51, u52, u53, u54, u55, u56, u57, u58, u59, u60, u61, u62, u63, u64, u65, u66, u67, u68, u69, u70, u71, u72, u73, u74, u75, u76, u77, u78, u79, u80, u81, u82, u83, u84, u85, u86, u87, u88], defers := { target := .collected D, args := #[] } :: ds } W)
    (hstop : r = 0 → ∀ D W, W7.heap.size ≤ D → Cells W6 W q n rd r (.slice a3 N c3) Dl → DefC W D → (Code.exit 2).wp Try.prog Q { tmps := #[u0, u1, u2, u3, u4, u5, .pointer (some ⟨rb, 0, none⟩), u7, .pointer (some ⟨q, 0, none⟩), .pointer (some ⟨q + 1, 0, none⟩), .pointer (some ⟨q + 2, 0, none⟩), u11, .pointer (some ⟨rd, 0, none⟩), u13, u14, u15, u16, u17, u18, u19, u20, u21, u22, u23, u24, u25, u26, u27, u28, u29, u30, u31, u32, u33, u34, u35, u36, u37, u38, u39, u40, .func (.func 15) #[] #[.pointer (some ⟨q + 3, 0, none⟩)], u42, u43, u44, u45, u46, u47, u48, u49, u50, u51, u52, u53, u54, u55, u56, u57, u58, u59, u60, u61, u62, u63, u64, u65, u66, u67, u68, u69, u70, u71, u72, u73, u74, u75, u76, u77, u78, u79, u80, u81, u82, u83, u84, u85, u86, u87, u88], defers := { target := .collected D, args := #[] } :: ds } W) :
    theRange.wp Try.prog Q { tmps := #[u0, u1, u2, u3, u4, u5, .pointer (some ⟨rb, 0, none⟩), u7, .pointer (some ⟨q, 0, none⟩), .pointer (some ⟨q + 1, 0, none⟩), .pointer (some ⟨q + 2, 0, none⟩), u11, .pointer (some ⟨rd, 0, none⟩), u13, u14, u15, u16, u17, u18, u19, u20, u21, u22, u23, u24, u25, u26, u27, u28, u29, u30, u31, u32, u33, u34, u35, u36, u37, u38, u39, u40, .func (.func 15) #[] #[.pointer (some ⟨q + 3, 0, none⟩)], u42, u43, u44, u45, u46, u47, u48, u49, u50, u51, u52, u53, u54, u55, u56, u57, u58, u59, u60, u61, u62, u63, u64, u65, u66, u67, u68, u69, u70, u71, u72, u73, u74, u75, u76, u77, u78, u79, u80, u81, u82, u83, u84, u85, u86, u87, u88], defers := ds } W7 := by
  have HN : Hid (N = rs.length) := hN
  have HWs : Hid (U64.SpansAt (q + 2) W6 (.slice a3 N c3) rs ∧ U64.SpansAt (q + 2) W6 (.slice a4 N c4) rs) := hWs
  have HWb6 : Hid (OneC W6 q 24 (.slice a4 N c4)) := hWb
  have HNb6 : Hid (OneC W6 (q + 1) 3 (.int .i64 (n : Int))) := hNb
  have HR6 : Hid (OneC W6 rb 4 (.bool false)) := hRb
  have hS7 : q + 5 ≤ W7.heap.size := HC.2.2.2.2.1
  obtain ⟨a0, ha0⟩ : ∃ a0 : Act, a0 = { tmps := #[u0, u1, u2, u3, u4, u5, .pointer (some ⟨rb, 0, none⟩), u7, .pointer (some ⟨q, 0, none⟩), .pointer (some ⟨q + 1, 0, none⟩), .pointer (some ⟨q + 2, 0, none⟩), u11, .pointer (some ⟨rd, 0, none⟩), u13, u14, u15, u16, u17, u18, u19, u20, u21, u22, u23, u24, u25, u26, u27, u28, u29, u30, u31, u32, u33, u34, u35, u36, u37, u38, u39, u40, .func (.func 15) #[] #[.pointer (some ⟨q + 3, 0, none⟩)], u42, u43, u44, u45, u46, u47, u48, u49, u50, u51, u52, u53, u54, u55, u56, u57, u58, u59, u60, u61, u62, u63, u64, u65, u66, u67, u68, u69, u70, u71, u72, u73, u74, u75, u76, u77, u78, u79, u80, u81, u82, u83, u84, u85, u86, u87, u88], defers := ds } := ⟨_, rfl⟩
  have ht0 : a0.tmps = #[u0, u1, u2, u3, u4, u5, .pointer (some ⟨rb, 0, none⟩), u7, .pointer (some ⟨q, 0, none⟩), .pointer (some ⟨q + 1, 0, none⟩), .pointer (some ⟨q + 2, 0, none⟩), u11, .pointer (some ⟨rd, 0, none⟩), u13, u14, u15, u16, u17, u18, u19, u20, u21, u22, u23, u24, u25, u26, u27, u28, u29, u30, u31, u32, u33, u34, u35, u36, u37, u38, u39, u40, .func (.func 15) #[] #[.pointer (some ⟨q + 3, 0, none⟩)], u42, u43, u44, u45, u46, u47, u48, u49, u50, u51, u52, u53, u54, u55, u56, u57, u58, u59, u60, u61, u62, u63, u64, u65, u66, u67, u68, u69, u70, u71, u72, u73, u74, u75, u76, u77, u78, u79, u80, u81, u82, u83, u84, u85, u86, u87, u88] := by rw [ha0]
  have hd0 : a0.defers = ds := by rw [ha0]
  rw [← ha0]
  clear hN hWs hWb hNb hRb
  refine (wpIn_wide (n := 6)).1 ?_
  unfold theRange
  refine wpIn_rangeFunc_ownH (F := Fence.wide) rfl (by decide) (gf := 15) (lb := #[.pointer (some ⟨q + 3, 0, none⟩)]) (by rw [ha0]; rfl) trivial (enters_of Try.func15 (by kernel_rfl) rfl)
    (U64.all_stops Fence.wide (6 - 1) trivial rfl (by decide) (q + 3) (q + 2) (.slice a3 N c3) rs W7 (by omega) (by omega) HC.2.1.cell (HWs.out.1.below HC.2.2.2.1)) belowK_t (belowK_b (by omega)) (Below.refl _ _) (fun _ => rfl)
    (fun pre W => Cells W6 W q pre.length rd r (.slice a3 N c3) Dl ∧ Hid (Good rs pre ∧ (r = 0 → pre.length < n)))
    (fun c pre W => (c = .ret ∧ Hid (¬ Good rs pre)) ∨ (c = .exit 2 ∧ Cells W6 W q pre.length rd r (.slice a3 N c3) Dl ∧ Hid (r = 0 ∧ pre.length = n)))
    (fun s W W' row h hg hr => ⟨h.1.grown (by omega) hDl hg hr, h.2⟩) (fun c s W W' row h hg hr => h.imp id (fun h => ⟨h.1, h.2.1.grown (by omega) hDl hg hr, h.2.2⟩)) ⟨HC, (rfl : _ = _), fun _ => by show 0 < n; omega⟩
    (fun x a' W => ∃ Bx, q + 4 < Bx ∧ TwoC W Bx x ∧ a' = { tmps := (a0.tmps.setIfInBounds 42 (.agg #[.int .u64 x.1, .int .u64 x.2])).setIfInBounds 13 (.pointer (some ⟨Bx, 0, none⟩)), defers := [] })
    ?hAx ?assign ?body ?done ?stop
  case hAx =>
    rintro x a' _ W W' row ⟨Bx, h1, h2, h4⟩ hg hr
    exact ⟨Bx, h1, (hg.block Bx h2.lt (fun e => by obtain ⟨_, o, ho, hc⟩ := hr Bx e.symm; rw [show W.heap[Bx]? = _ from h2] at ho; cases ho; cases hc)).trans h2, h4⟩
  case done =>
    rintro D ys W hD rfl ⟨i1, i2⟩ hK
    have hg := i2.2
    rw [← HN.out] at i1 hg
    rcases hr01 with h0 | h1
    · exact absurd (hg h0) (by omega)
    · subst ha0
      exact hdone h1 D W hD i1 hK
  case stop =>
    rintro D c pre W hD ⟨k, hk, rfl⟩ h hK
    rcases h with ⟨rfl, hb⟩ | ⟨rfl, i1, h0, hl⟩
    · exact absurd (good_take hk) hb
    · rw [hl] at i1
      subst ha0
      exact wpIn_wide.2 (hstop h0 D W hD i1 hK)
  case assign =>
    rintro l pre x W K ⟨i1, i2⟩ hK
    have HK : Hid (∀ a' W', KeepsFrom _ W W' → Below (q + 2) W W' → _ → _ → K a' W') := hK
    clear hK hdone hstop
    subst ha0
    dsimp only [U64.encS]
    gi_wp2
    exact HK.out _ _ ((KeepsOthers.alloc _ _).from _) ((Below.refl _ W).alloc (by have := i1.2.2.2.2.1; omega) _) ⟨i1.alloc _, i2⟩ ⟨W.heap.size, by have := i1.2.2.2.2.1; omega, heap_alloc_new W _, rfl⟩
  case body =>
    rintro l pre x a' W hl ⟨rr, hr⟩ ⟨i1, i2⟩ ⟨Bx, hBx, hX, rfl⟩ hlt
    rcases HWs.out.2.below i1.2.2.2.1 with ⟨_, e⟩ | ⟨g, off, cap, e, hg, _, _, hc⟩
    · rw [e] at hlt
      exact absurd hlt (by simp)
    obtain rfl : a4 = some ⟨g, off, none⟩ := by injection e
    obtain ⟨w0, w1⟩ := hc pre.length hlt
    obtain ⟨y, hy⟩ : ∃ y, y = rs[pre.length] := ⟨_, rfl⟩
    rw [← hy] at w0 w1
    have HY : Hid (∀ h : pre.length < rs.length, y = rs[pre.length]'h) := fun _ => hy
    have HIi : Hid (Cells W6 W q pre.length rd r (.slice a3 N c3) Dl) := i1
    have HGo : Hid (Good rs pre ∧ (r = 0 → pre.length < n)) := i2
    have HLt : Hid (pre.length < rs.length) := hlt
    have cI := i1.1.cell
    have fI := i1.1.thawed
    have cRd := i1.2.2.1.cell
    have cW := (HWb6.out.low i1.2.2.2.1 (by omega)).cell
    have cN := (HNb6.out.low i1.2.2.2.1 (by omega)).cell
    have hR := HR6.out.low i1.2.2.2.1 (by omega)
    have cR := hR.cell
    have fR := hR.thawed
    obtain ⟨x0, x1⟩ := hX.cells
    have hgd := U64.guard_spans
    obtain ⟨i, hi⟩ : ∃ i, i = pre.length := ⟨_, rfl⟩
    have HIp : Hid (i = pre.length) := hi
    rw [← hi] at w0 w1 cI
    have hiN : (i : Int) < (N : Int) := by have := HN.out; omega
    have hiNn : i < N := by omega
    have hiNd : decide (N ≤ i) = false := decide_eq_false (by omega)
    have hi31 : i < 1073741827 := by have := HN.out; omega
    obtain ⟨b, hb⟩ : ∃ b, decide (x ≠ y) = b := ⟨_, rfl⟩
    have HBd : Hid (decide (x ≠ y) = b) := hb
    have hneq := fun w => neq_span2 w x y b hb
    have hmx : Try.prog.follows .mixedOrders = true := by kernel_rfl
    have hrd : ¬ rd = q + 2 := by have := i1.2.2.2.2.2.1; omega
    have HDd : Hid (q + 5 ≤ W.heap.size) := i1.2.2.2.2.1
    clear hy i1 i2 hlt hc e hi hX hR hr hl hb hdone hstop ht0 hd0 HC hDl
    subst ha0
    simp only [List.setIfInBounds_toArray, List.set_cons_zero, List.set_cons_succ]
    gi_wp2
    refine wpIn_mono (Q := fun e a' w' => e = .normal ∧ a' = { tmps := #[u0, u1, u2, u3, u4, u5, .pointer (some ⟨rb, 0, none⟩), u7, .pointer (some ⟨q, 0, none⟩), .pointer (some ⟨q + 1, 0, none⟩), .pointer (some ⟨q + 2, 0, none⟩), u11, .pointer (some ⟨rd, 0, none⟩), .pointer (some ⟨Bx, 0, none⟩), u14, u15, u16, u17, u18, u19, u20, u21, u22, u23, u24, u25, u26, u27, u28, u29, u30, u31, u32, u33, u34, u35, u36, u37, u38, u39, u40, .func (.func 15) #[] #[.pointer (some ⟨q + 3, 0, none⟩)], .agg #[.int .u64 x.1, .int .u64 x.2], .int .i64 (i : Int), .slice (some ⟨g, off, none⟩) N c4, .int .i64 (N : Int), .bool false, .bool false, .agg #[.int .u64 x.1, .int .u64 x.2], .slice (some ⟨g, off, none⟩) N c4, .int .i64 (i : Int), .pointer (some ⟨g, off + i * 2, none⟩), .agg #[.int .u64 y.1, .int .u64 y.2], .bool b, .bool b, u55, u56, u57, u58, u59, u60, u61, u62, u63, u64, u65, u66, u67, u68, u69, u70, u71, u72, u73, u74, u75, u76, u77, u78, u79, u80, u81, u82, u83, u84, u85, u86, u87, u88], defers := [] } ∧ w' = W.drew) ?_ ?_
    · gi_region_with_o (fail)
      all_goals exact ⟨rfl, rfl, rfl⟩
    rintro _ _ _ ⟨rfl, rfl, rfl⟩
    have hlen : (pre ++ [x]).length = i + 1 := by rw [List.length_append, List.length_singleton, ← HIp.out]
    have HCs : Hid (Cells W6 (W.setCell ⟨q + 2, 0, none⟩ (.int .i64 ((i : Int) + 1))) q (pre ++ [x]).length rd r (.slice a3 N c3) Dl) := by
      rw [hlen]
      exact HIi.out.step (i + 1)
    have HBs : Hid (Below (q + 2) W (W.setCell ⟨q + 2, 0, none⟩ (.int .i64 ((i : Int) + 1)))) := (Below.refl _ W).setCell (p := ⟨q + 2, 0, none⟩) (Nat.le_refl _) _
    have HLen : Hid ((pre ++ [x]).length = i + 1) := hlen
    clear hlen
    cases b with
    | true =>
      have HNg : Hid (¬ Good rs (pre ++ [x])) := not_good HGo.out.1 HLt.out (by rw [← HY.out HLt.out]; simpa using HBd.out)
      gi_wp2
      exact ⟨by first | exact ((KeepsOthers.setCell _ _ _).trans (KeepsOthers.drew _)).from _ | exact ((KeepsOthers.drew _).trans (KeepsOthers.setCell _ _ _)).from _, .inl ⟨rfl, HNg⟩⟩
    | false =>
      have HGd : Hid (Good rs (pre ++ [x])) := good_next HGo.out.1 HLt.out (by rw [← HY.out HLt.out]; simpa using HBd.out)
      rcases hr01 with rfl | rfl
      · by_cases hin : i + 1 = n
        · have hine : ((i : Int) + 1 == (n : Int)) = true := by simp; omega
          gi_wp2
          exact ⟨by first | exact ((KeepsOthers.setCell _ _ _).trans (KeepsOthers.drew _)).from _ | exact ((KeepsOthers.drew _).trans (KeepsOthers.setCell _ _ _)).from _, .inr ⟨rfl, by first | exact HCs.out.drew | exact HCs.out, by first | exact (⟨rfl, HLen.out.trans hin⟩ : _ ∧ _) | exact HLen.out.trans hin⟩⟩
        · have hine : ((i : Int) + 1 == (n : Int)) = false := by simp; omega
          have HL2 : Hid ((pre ++ [x]).length < n) := by
            show _ < _
            have h1 := HGo.out.2 rfl
            have h2 := HLen.out
            have h3 := HIp.out
            omega
          gi_wp2
          exact ⟨by first | exact ((KeepsOthers.setCell _ _ _).trans (KeepsOthers.drew _)).from _ | exact ((KeepsOthers.drew _).trans (KeepsOthers.setCell _ _ _)).from _, by first | exact HBs.out.drew | exact HBs.out, by first | exact HCs.out.drew | exact HCs.out, HGd.out, by first | exact HL2.out | exact fun _ => HL2.out⟩
      · gi_wp2
        exact ⟨by first | exact ((KeepsOthers.setCell _ _ _).trans (KeepsOthers.drew _)).from _ | exact ((KeepsOthers.drew _).trans (KeepsOthers.setCell _ _ _)).from _, by first | exact HBs.out.drew | exact HBs.out, by first | exact HCs.out.drew | exact HCs.out, HGd.out, fun h => absurd h (by decide)⟩
end Go.Proofs.Ytabgmlnlooiddaa
