/- SpanPoints: its switch (written by parts/gen_spoints.py). Own work. -/
import Derived.Test.YtogcpogoamoljaaSpPtsH
namespace Go.Proofs.Ytogcpogoamoljaa
open Go.RowKit Go.Shelf Go.Proofs.Ytogcpogoamoljaa.Sp Go.Proofs.Ytogcpogoamoljaa.U8
set_option linter.unusedVariables false in
set_option maxHeartbeats 16000000 in
set_option maxRecDepth 4000 in
theorem switch_any {w wr W3 : World} {cap n k gs cs gi ci m bb oo ln lc ia ib ca cb na nb : Nat} {u12 u13 u14 u15 u16 u17 u18 u19 u20 u21 u22 u23 u24 u25 u26 u27 u28 u29 u30 u31 u2 u8 u41 u42 u64 u69 u70 u71 u72 u73 u74 u75 u76 u77 u78 u79 u80 u81 u82 u83 u84 u85 u86 u87 u88 u89 u90 u91 u92 u93 u94 u95 u96 u97 u98 u99 u100 u101 u102 u103 u104 u105 u106 u107 u108 u109 u110 u111 u112 u113 u114 u115 u116 u117 u118 u119 u120 u121 u122 u123 u124 u125 u126 u127 u128 u129 u130 u131 u132 u133 u134 u135 u136 u137 u138 u139 u140 u141 u142 u143 u144 u145 u146 u147 u148 u149 u150 u151 u152 u153 u154 u155 u156 u157 u158 u159 u160 u161 u162 u163 u164 u165 u166 u167 : Value} {la aa ab : Option Addr} {sk sa sb sx sy : Int} {xa xb : List Sp} {fa fb : Nat → Bool} {st : PStep} {J K' : Act → World → Prop} {Q : Exit → Act → World → Prop}
    (HE6 : Hid (Enters Try.prog 6))
    (HPr : Hid
    (∀ (a b : Int),
      0 ≤ a ∧ a ≤ 18446744073709551615 →
        0 ≤ b ∧ b ≤ 18446744073709551615 →
          ∀ (W : World),
            Calls Try.prog 6 #[Value.int IntKind.u64 a, Value.int IntKind.u64 b] W fun e w' =>
              ∃ u,
                e = Ending.returned u ∧
                  u = Value.agg #[Value.int IntKind.u8 (a % 256), Value.int IntKind.u8 (b % 256)] ∧ ∃ X, w' = W.alloc X))
    (y0 : 0 ≤ sy ∧ sy ≤ 18446744073709551615)
    (x0 : 0 ≤ sx ∧ sx ≤ 18446744073709551615)
    (HGa : Hid (Good wr w.heap.size { v := Value.slice aa na ca, xs := xa, f := fa }))
    (HIb : Hid
    (∀ (W' : World),
      Below wr.heap.size wr W' → PtsIn W' gi (ib * 256) fb))
    (HSb : Hid
    (∀ (W' : World),
      Below wr.heap.size wr W' →
        W'.cell? { block := gs, off := ib } = some (Value.slice ab nb cb)))
    (HGb : Hid (Good wr w.heap.size { v := Value.slice ab nb cb, xs := xb, f := fb }))
    (H3 : Hid (Rd wr W3 st (Value.slice aa na ca) fa))
    (HFd : Hid
    (∀ (W' : World) (v' : Value) (f' : Nat → Bool),
      Rd wr W' st v' f' →
        W'.cell? { block := wr.heap.size, off := 0 } = some (Value.int IntKind.i64 sk) ∧
          W'.cell? { block := wr.heap.size, off := 3 } = some (Value.int IntKind.u64 sx) ∧
            W'.cell? { block := wr.heap.size, off := 4 } = some (Value.int IntKind.u64 sy)))
    (HW : Hid (w.heap.size ≤ wr.heap.size))
    (ia1 : ↑ia < ↑m)
    (ib1 : ↑ib < ↑m)
    (hia : ia ≤ k)
    (hib : ib ≤ k)
    (hci1 : m ≤ ci)
    (hcs1 : m ≤ cs)
    (hcs2 : cs ≤ 2 ^ 63 - 1)
    (hci2 : ci ≤ 2 ^ 63 - 1)
    (hk : k ≤ 60)
    (hz : ∀ (w : World), Sem.run Try.prog (zeroValue 33) w = Result.ok (Value.agg (ptsV fun x => false)) w)
    (hgs0 : gs < wr.heap.size)
    (hQ : ∀ (c : _) (a : Act) (d : Nat) (v : Value) (w2 : World), Q (.panic c) (a.put (some d) v) w2 → Q (.panic c) a w2)
    (hJ : ∀ (a' : Act) (w' : World),
    (∃ u33 u34 u35 u36 u37 u38 u39 u40 u41 u42 u43 u44 u45 u46 u47 u48 u49 u50 u51 u52 u53 u54 u55 u56 u57 u58 u59 u60
        u61 u62 u63 u64 u65 u66 u67 u69 u70 u71 u72 u73 u74 u75 u76 u77 u78 u79 u80 u81 u82 u83 u84 u85 u86 u87 u88 u89
        u90 u91 u92 u93 u94 u95 u96 u97 u98 u99 u100 u101 u102 u103 u104 u105 u106 u107 u108 u109 u110 u111 u112 u113
        u114 u115 u116 u117 u118 u119 u120 u121 u122 u123 u124 u125 u126 u127 u128 u129 u130 u131 u132 u133 u134 u135
        u136 u137 u138 u139 u140 u141 u142 u143 u144 u145 u146 u147 u148 u149 u150 u151 u152 u153 u154 u155 u156 u157
        u158 u159 u160 u161 u162 u163 u164 u165 u166 u167,
        Hid (Rz w wr w' st) ∧
          a' =
            {
              tmps :=
                #[Value.slice (some { block := bb, off := oo }) n cap, undef, u2,
                  Value.pointer (some { block := w.heap.size, off := 0 }),
                  Value.slice (some { block := gs, off := 0 }) m cs, Value.slice (some { block := gi, off := 0 }) m ci,
                  Value.int IntKind.i64 ↑k, Value.pointer (some { block := wr.heap.size, off := 0 }),
                  Value.int IntKind.i64 ↑ia, Value.int IntKind.i64 ↑ib,
                  Value.pointer (some { block := wr.heap.size + 1, off := 0 }),
                  Value.pointer (some { block := wr.heap.size + 1 + 1, off := 0 }), u12, u13, u14, u15, u16, u17, u18,
                  u19, u20, u21, u22, u23, u24, u25, u26, u27, u28, u29, u30, u31, Value.bool false, u33, u34, u35, u36,
                  u37, u38, u39, u40, u41, u42, u43, u44, u45, u46, u47, u48, u49, u50, u51, u52, u53, u54, u55, u56,
                  u57, u58, u59, u60, u61, u62, u63, u64, u65, u66, u67, Value.int IntKind.i64 sk, u69, u70, u71, u72,
                  u73, u74, u75, u76, u77, u78, u79, u80, u81, u82, u83, u84, u85, u86, u87, u88, u89, u90, u91, u92,
                  u93, u94, u95, u96, u97, u98, u99, u100, u101, u102, u103, u104, u105, u106, u107, u108, u109, u110,
                  u111, u112, u113, u114, u115, u116, u117, u118, u119, u120, u121, u122, u123, u124, u125, u126, u127,
                  u128, u129, u130, u131, u132, u133, u134, u135, u136, u137, u138, u139, u140, u141, u142, u143, u144,
                  u145, u146, u147, u148, u149, u150, u151, u152, u153, u154, u155, u156, u157, u158, u159, u160, u161,
                  u162, u163, u164, u165, u166, u167],
              defers := [] }) →
      J a' w')
    (hK : ∀ (a' : Act) (w' : World), Met J a' w' → K' a' w') :
  Code.wp Try.prog
    (Code.block 2
      ((Code.region 15
            #[{ dst := some 70, op := Op.binOp BinOp.eql 3 (Operand.tmp 68) (Operand.const (Value.int IntKind.i64 2)) 3,
                type := 4, pos := "outright.go:87", after := #[], guard := none },
              { dst := some 69, op := Op.assign (Operand.tmp 70), type := 4, pos := "outright.go:87",
                after := #[{ on := 0, ground := Ground.data }], guard := none }]
            false).seq
        (Code.cond (Operand.tmp 69)
          ((Code.region 16
                #[{ dst := some 71, op := Op.load 25 (Operand.tmp 10), type := 25, pos := "outright.go:88",
                    after := #[], guard := none },
                  { dst := some 72, op := Op.fieldAddr 39 (Operand.tmp 7) 3, type := 0, pos := "outright.go:88",
                    after := #[], guard := none },
                  { dst := some 73, op := Op.load 30 (Operand.tmp 72), type := 30, pos := "outright.go:88",
                    after := #[{ on := 1, ground := Ground.data }], guard := none },
                  { dst := some 74, op := Op.fieldAddr 39 (Operand.tmp 7) 4, type := 0, pos := "outright.go:88",
                    after := #[], guard := none },
                  { dst := some 75, op := Op.load 30 (Operand.tmp 74), type := 30, pos := "outright.go:88",
                    after := #[{ on := 3, ground := Ground.data }], guard := none },
                  { dst := some 76,
                    op :=
                      Op.call
                        { callee := Callee.value (Operand.func 6), args := #[Operand.tmp 73, Operand.tmp 75],
                          argTypes := #[30, 30] },
                    type := 28, pos := "outright.go:88",
                    after := #[{ on := 2, ground := Ground.data }, { on := 4, ground := Ground.data }], guard := none },
                  { dst := some 77,
                    op :=
                      Op.call
                        { callee := Callee.value (Operand.func 5), args := #[Operand.tmp 71, Operand.tmp 76],
                          argTypes := #[25, 28] },
                    type := 25, pos := "outright.go:88",
                    after :=
                      #[{ on := 0, ground := Ground.data }, { on := 5, ground := Ground.data },
                        { on := 5, ground := Ground.chain }],
                    guard := none },
                  { dst := none, op := Op.store 25 (Operand.tmp 10) (Operand.tmp 77), type := 0,
                    pos := "outright.go:88",
                    after :=
                      #[{ on := 6, ground := Ground.data }, { on := 6, ground := Ground.chain },
                        { on := 0, ground := Ground.phase }, { on := 1, ground := Ground.phase },
                        { on := 2, ground := Ground.phase }, { on := 3, ground := Ground.phase },
                        { on := 4, ground := Ground.phase }, { on := 5, ground := Ground.phase },
                        { on := 6, ground := Ground.phase }],
                    guard := none }]
                true).seq
            (Code.region 17
              #[{ dst := some 78, op := Op.load 33 (Operand.tmp 11), type := 33, pos := "outright.go:89", after := #[],
                  guard := none },
                { dst := some 79, op := Op.fieldAddr 39 (Operand.tmp 7) 3, type := 0, pos := "outright.go:89",
                  after := #[], guard := none },
                { dst := some 80, op := Op.load 30 (Operand.tmp 79), type := 30, pos := "outright.go:89",
                  after := #[{ on := 1, ground := Ground.data }], guard := none },
                { dst := some 81, op := Op.fieldAddr 39 (Operand.tmp 7) 4, type := 0, pos := "outright.go:89",
                  after := #[], guard := none },
                { dst := some 82, op := Op.load 30 (Operand.tmp 81), type := 30, pos := "outright.go:89",
                  after := #[{ on := 3, ground := Ground.data }], guard := none },
                { dst := some 83,
                  op :=
                    Op.call
                      { callee := Callee.value (Operand.func 7),
                        args := #[Operand.tmp 78, Operand.tmp 80, Operand.tmp 82, Operand.const (Value.bool true)],
                        argTypes := #[33, 30, 30, 4] },
                  type := 33, pos := "outright.go:89",
                  after :=
                    #[{ on := 0, ground := Ground.data }, { on := 2, ground := Ground.data },
                      { on := 4, ground := Ground.data }],
                  guard := none },
                { dst := none, op := Op.store 33 (Operand.tmp 11) (Operand.tmp 83), type := 0, pos := "outright.go:89",
                  after :=
                    #[{ on := 5, ground := Ground.data }, { on := 5, ground := Ground.chain },
                      { on := 0, ground := Ground.phase }, { on := 1, ground := Ground.phase },
                      { on := 2, ground := Ground.phase }, { on := 3, ground := Ground.phase },
                      { on := 4, ground := Ground.phase }, { on := 5, ground := Ground.phase }],
                  guard := none }]
              false))
          ((Code.region 18
                #[{ dst := some 85,
                    op := Op.binOp BinOp.eql 3 (Operand.tmp 68) (Operand.const (Value.int IntKind.i64 3)) 3, type := 4,
                    pos := "outright.go:90", after := #[], guard := none },
                  { dst := some 84, op := Op.assign (Operand.tmp 85), type := 4, pos := "outright.go:90",
                    after := #[{ on := 0, ground := Ground.data }], guard := none }]
                false).seq
            (Code.cond (Operand.tmp 84)
              ((Code.region 19
                    #[{ dst := some 86, op := Op.load 25 (Operand.tmp 10), type := 25, pos := "outright.go:91",
                        after := #[], guard := none },
                      { dst := some 87, op := Op.fieldAddr 39 (Operand.tmp 7) 3, type := 0, pos := "outright.go:91",
                        after := #[], guard := none },
                      { dst := some 88, op := Op.load 30 (Operand.tmp 87), type := 30, pos := "outright.go:91",
                        after := #[{ on := 1, ground := Ground.data }], guard := none },
                      { dst := some 89, op := Op.fieldAddr 39 (Operand.tmp 7) 4, type := 0, pos := "outright.go:91",
                        after := #[], guard := none },
                      { dst := some 90, op := Op.load 30 (Operand.tmp 89), type := 30, pos := "outright.go:91",
                        after := #[{ on := 3, ground := Ground.data }], guard := none },
                      { dst := some 91,
                        op :=
                          Op.call
                            { callee := Callee.value (Operand.func 6), args := #[Operand.tmp 88, Operand.tmp 90],
                              argTypes := #[30, 30] },
                        type := 28, pos := "outright.go:91",
                        after := #[{ on := 2, ground := Ground.data }, { on := 4, ground := Ground.data }],
                        guard := none },
                      { dst := some 92,
                        op :=
                          Op.call
                            { callee := Callee.value (Operand.func 10), args := #[Operand.tmp 86, Operand.tmp 91],
                              argTypes := #[25, 28] },
                        type := 25, pos := "outright.go:91",
                        after :=
                          #[{ on := 0, ground := Ground.data }, { on := 5, ground := Ground.data },
                            { on := 5, ground := Ground.chain }],
                        guard := none },
                      { dst := none, op := Op.store 25 (Operand.tmp 10) (Operand.tmp 92), type := 0,
                        pos := "outright.go:91",
                        after :=
                          #[{ on := 6, ground := Ground.data }, { on := 6, ground := Ground.chain },
                            { on := 0, ground := Ground.phase }, { on := 1, ground := Ground.phase },
                            { on := 2, ground := Ground.phase }, { on := 3, ground := Ground.phase },
                            { on := 4, ground := Ground.phase }, { on := 5, ground := Ground.phase },
                            { on := 6, ground := Ground.phase }],
                        guard := none }]
                    true).seq
                (Code.region 20
                  #[{ dst := some 93, op := Op.load 33 (Operand.tmp 11), type := 33, pos := "outright.go:92",
                      after := #[], guard := none },
                    { dst := some 94, op := Op.fieldAddr 39 (Operand.tmp 7) 3, type := 0, pos := "outright.go:92",
                      after := #[], guard := none },
                    { dst := some 95, op := Op.load 30 (Operand.tmp 94), type := 30, pos := "outright.go:92",
                      after := #[{ on := 1, ground := Ground.data }], guard := none },
                    { dst := some 96, op := Op.fieldAddr 39 (Operand.tmp 7) 4, type := 0, pos := "outright.go:92",
                      after := #[], guard := none },
                    { dst := some 97, op := Op.load 30 (Operand.tmp 96), type := 30, pos := "outright.go:92",
                      after := #[{ on := 3, ground := Ground.data }], guard := none },
                    { dst := some 98,
                      op :=
                        Op.call
                          { callee := Callee.value (Operand.func 7),
                            args := #[Operand.tmp 93, Operand.tmp 95, Operand.tmp 97, Operand.const (Value.bool false)],
                            argTypes := #[33, 30, 30, 4] },
                      type := 33, pos := "outright.go:92",
                      after :=
                        #[{ on := 0, ground := Ground.data }, { on := 2, ground := Ground.data },
                          { on := 4, ground := Ground.data }],
                      guard := none },
                    { dst := none, op := Op.store 33 (Operand.tmp 11) (Operand.tmp 98), type := 0,
                      pos := "outright.go:92",
                      after :=
                        #[{ on := 5, ground := Ground.data }, { on := 5, ground := Ground.chain },
                          { on := 0, ground := Ground.phase }, { on := 1, ground := Ground.phase },
                          { on := 2, ground := Ground.phase }, { on := 3, ground := Ground.phase },
                          { on := 4, ground := Ground.phase }, { on := 5, ground := Ground.phase }],
                      guard := none }]
                  false))
              ((Code.region 21
                    #[{ dst := some 100,
                        op := Op.binOp BinOp.eql 3 (Operand.tmp 68) (Operand.const (Value.int IntKind.i64 4)) 3,
                        type := 4, pos := "outright.go:93", after := #[], guard := none },
                      { dst := some 99, op := Op.assign (Operand.tmp 100), type := 4, pos := "outright.go:93",
                        after := #[{ on := 0, ground := Ground.data }], guard := none }]
                    false).seq
                (Code.cond (Operand.tmp 99)
                  ((Code.region 22
                        #[{ dst := some 101, op := Op.load 25 (Operand.tmp 10), type := 25, pos := "outright.go:94",
                            after := #[], guard := none },
                          { dst := some 102, op := Op.move (Operand.tmp 4), type := 31, pos := "outright.go:94",
                            after := #[], guard := none },
                          { dst := some 103, op := Op.move (Operand.tmp 9), type := 3, pos := "outright.go:94",
                            after := #[], guard := none },
                          { dst := some 104, op := Op.indexAddr 31 (Operand.tmp 102) (Operand.tmp 103), type := 0,
                            pos := "outright.go:94",
                            after := #[{ on := 1, ground := Ground.data }, { on := 2, ground := Ground.data }],
                            guard := none },
                          { dst := some 105, op := Op.load 25 (Operand.tmp 104), type := 25, pos := "outright.go:94",
                            after := #[{ on := 3, ground := Ground.data }], guard := none },
                          { dst := some 106,
                            op :=
                              Op.call
                                { callee := Callee.value (Operand.func 11), args := #[Operand.tmp 101, Operand.tmp 105],
                                  argTypes := #[25, 25] },
                            type := 25, pos := "outright.go:94",
                            after := #[{ on := 0, ground := Ground.data }, { on := 4, ground := Ground.data }],
                            guard := none },
                          { dst := none, op := Op.store 25 (Operand.tmp 10) (Operand.tmp 106), type := 0,
                            pos := "outright.go:94",
                            after :=
                              #[{ on := 5, ground := Ground.data }, { on := 5, ground := Ground.chain },
                                { on := 0, ground := Ground.phase }, { on := 1, ground := Ground.phase },
                                { on := 2, ground := Ground.phase }, { on := 3, ground := Ground.phase },
                                { on := 4, ground := Ground.phase }, { on := 5, ground := Ground.phase }],
                            guard := none }]
                        true).seq
                    (Code.region 23
                      #[{ dst := some 107, op := Op.load 33 (Operand.tmp 11), type := 33, pos := "outright.go:95",
                          after := #[], guard := none },
                        { dst := some 108, op := Op.move (Operand.tmp 5), type := 35, pos := "outright.go:95",
                          after := #[], guard := none },
                        { dst := some 109, op := Op.move (Operand.tmp 9), type := 3, pos := "outright.go:95",
                          after := #[], guard := none },
                        { dst := some 110, op := Op.indexAddr 35 (Operand.tmp 108) (Operand.tmp 109), type := 0,
                          pos := "outright.go:95",
                          after := #[{ on := 1, ground := Ground.data }, { on := 2, ground := Ground.data }],
                          guard := none },
                        { dst := some 111, op := Op.load 33 (Operand.tmp 110), type := 33, pos := "outright.go:95",
                          after := #[{ on := 3, ground := Ground.data }], guard := none },
                        { dst := some 112,
                          op :=
                            Op.call
                              { callee := Callee.value (Operand.func 12),
                                args := #[Operand.const (Value.int IntKind.i64 4), Operand.tmp 107, Operand.tmp 111],
                                argTypes := #[3, 33, 33] },
                          type := 33, pos := "outright.go:95",
                          after := #[{ on := 0, ground := Ground.data }, { on := 4, ground := Ground.data }],
                          guard := none },
                        { dst := none, op := Op.store 33 (Operand.tmp 11) (Operand.tmp 112), type := 0,
                          pos := "outright.go:95",
                          after :=
                            #[{ on := 5, ground := Ground.data }, { on := 5, ground := Ground.chain },
                              { on := 0, ground := Ground.phase }, { on := 1, ground := Ground.phase },
                              { on := 2, ground := Ground.phase }, { on := 3, ground := Ground.phase },
                              { on := 4, ground := Ground.phase }, { on := 5, ground := Ground.phase }],
                          guard := none }]
                      true))
                  ((Code.region 24
                        #[{ dst := some 114,
                            op := Op.binOp BinOp.eql 3 (Operand.tmp 68) (Operand.const (Value.int IntKind.i64 5)) 3,
                            type := 4, pos := "outright.go:96", after := #[], guard := none },
                          { dst := some 113, op := Op.assign (Operand.tmp 114), type := 4, pos := "outright.go:96",
                            after := #[{ on := 0, ground := Ground.data }], guard := none }]
                        false).seq
                    (Code.cond (Operand.tmp 113)
                      ((Code.region 25
                            #[{ dst := some 115, op := Op.load 25 (Operand.tmp 10), type := 25, pos := "outright.go:97",
                                after := #[], guard := none },
                              { dst := some 116, op := Op.move (Operand.tmp 4), type := 31, pos := "outright.go:97",
                                after := #[], guard := none },
                              { dst := some 117, op := Op.move (Operand.tmp 9), type := 3, pos := "outright.go:97",
                                after := #[], guard := none },
                              { dst := some 118, op := Op.indexAddr 31 (Operand.tmp 116) (Operand.tmp 117), type := 0,
                                pos := "outright.go:97",
                                after := #[{ on := 1, ground := Ground.data }, { on := 2, ground := Ground.data }],
                                guard := none },
                              { dst := some 119, op := Op.load 25 (Operand.tmp 118), type := 25,
                                pos := "outright.go:97", after := #[{ on := 3, ground := Ground.data }],
                                guard := none },
                              { dst := some 120,
                                op :=
                                  Op.call
                                    { callee := Callee.value (Operand.func 13),
                                      args := #[Operand.tmp 115, Operand.tmp 119], argTypes := #[25, 25] },
                                type := 25, pos := "outright.go:97",
                                after := #[{ on := 0, ground := Ground.data }, { on := 4, ground := Ground.data }],
                                guard := none },
                              { dst := none, op := Op.store 25 (Operand.tmp 10) (Operand.tmp 120), type := 0,
                                pos := "outright.go:97",
                                after :=
                                  #[{ on := 5, ground := Ground.data }, { on := 5, ground := Ground.chain },
                                    { on := 0, ground := Ground.phase }, { on := 1, ground := Ground.phase },
                                    { on := 2, ground := Ground.phase }, { on := 3, ground := Ground.phase },
                                    { on := 4, ground := Ground.phase }, { on := 5, ground := Ground.phase }],
                                guard := none }]
                            true).seq
                        (Code.region 26
                          #[{ dst := some 121, op := Op.load 33 (Operand.tmp 11), type := 33, pos := "outright.go:98",
                              after := #[], guard := none },
                            { dst := some 122, op := Op.move (Operand.tmp 5), type := 35, pos := "outright.go:98",
                              after := #[], guard := none },
                            { dst := some 123, op := Op.move (Operand.tmp 9), type := 3, pos := "outright.go:98",
                              after := #[], guard := none },
                            { dst := some 124, op := Op.indexAddr 35 (Operand.tmp 122) (Operand.tmp 123), type := 0,
                              pos := "outright.go:98",
                              after := #[{ on := 1, ground := Ground.data }, { on := 2, ground := Ground.data }],
                              guard := none },
                            { dst := some 125, op := Op.load 33 (Operand.tmp 124), type := 33, pos := "outright.go:98",
                              after := #[{ on := 3, ground := Ground.data }], guard := none },
                            { dst := some 126,
                              op :=
                                Op.call
                                  { callee := Callee.value (Operand.func 12),
                                    args :=
                                      #[Operand.const (Value.int IntKind.i64 5), Operand.tmp 121, Operand.tmp 125],
                                    argTypes := #[3, 33, 33] },
                              type := 33, pos := "outright.go:98",
                              after := #[{ on := 0, ground := Ground.data }, { on := 4, ground := Ground.data }],
                              guard := none },
                            { dst := none, op := Op.store 33 (Operand.tmp 11) (Operand.tmp 126), type := 0,
                              pos := "outright.go:98",
                              after :=
                                #[{ on := 5, ground := Ground.data }, { on := 5, ground := Ground.chain },
                                  { on := 0, ground := Ground.phase }, { on := 1, ground := Ground.phase },
                                  { on := 2, ground := Ground.phase }, { on := 3, ground := Ground.phase },
                                  { on := 4, ground := Ground.phase }, { on := 5, ground := Ground.phase }],
                              guard := none }]
                          true))
                      ((Code.region 27
                            #[{ dst := some 128,
                                op := Op.binOp BinOp.eql 3 (Operand.tmp 68) (Operand.const (Value.int IntKind.i64 6)) 3,
                                type := 4, pos := "outright.go:99", after := #[], guard := none },
                              { dst := some 127, op := Op.assign (Operand.tmp 128), type := 4, pos := "outright.go:99",
                                after := #[{ on := 0, ground := Ground.data }], guard := none }]
                            false).seq
                        (Code.cond (Operand.tmp 127)
                          ((Code.region 28
                                #[{ dst := some 129, op := Op.load 25 (Operand.tmp 10), type := 25,
                                    pos := "outright.go:100", after := #[], guard := none },
                                  { dst := some 130, op := Op.move (Operand.tmp 4), type := 31,
                                    pos := "outright.go:100", after := #[], guard := none },
                                  { dst := some 131, op := Op.move (Operand.tmp 9), type := 3, pos := "outright.go:100",
                                    after := #[], guard := none },
                                  { dst := some 132, op := Op.indexAddr 31 (Operand.tmp 130) (Operand.tmp 131),
                                    type := 0, pos := "outright.go:100",
                                    after := #[{ on := 1, ground := Ground.data }, { on := 2, ground := Ground.data }],
                                    guard := none },
                                  { dst := some 133, op := Op.load 25 (Operand.tmp 132), type := 25,
                                    pos := "outright.go:100", after := #[{ on := 3, ground := Ground.data }],
                                    guard := none },
                                  { dst := some 134,
                                    op :=
                                      Op.call
                                        { callee := Callee.value (Operand.func 14),
                                          args := #[Operand.tmp 129, Operand.tmp 133], argTypes := #[25, 25] },
                                    type := 25, pos := "outright.go:100",
                                    after := #[{ on := 0, ground := Ground.data }, { on := 4, ground := Ground.data }],
                                    guard := none },
                                  { dst := none, op := Op.store 25 (Operand.tmp 10) (Operand.tmp 134), type := 0,
                                    pos := "outright.go:100",
                                    after :=
                                      #[{ on := 5, ground := Ground.data }, { on := 5, ground := Ground.chain },
                                        { on := 0, ground := Ground.phase }, { on := 1, ground := Ground.phase },
                                        { on := 2, ground := Ground.phase }, { on := 3, ground := Ground.phase },
                                        { on := 4, ground := Ground.phase }, { on := 5, ground := Ground.phase }],
                                    guard := none }]
                                true).seq
                            (Code.region 29
                              #[{ dst := some 135, op := Op.load 33 (Operand.tmp 11), type := 33,
                                  pos := "outright.go:101", after := #[], guard := none },
                                { dst := some 136, op := Op.move (Operand.tmp 5), type := 35, pos := "outright.go:101",
                                  after := #[], guard := none },
                                { dst := some 137, op := Op.move (Operand.tmp 9), type := 3, pos := "outright.go:101",
                                  after := #[], guard := none },
                                { dst := some 138, op := Op.indexAddr 35 (Operand.tmp 136) (Operand.tmp 137), type := 0,
                                  pos := "outright.go:101",
                                  after := #[{ on := 1, ground := Ground.data }, { on := 2, ground := Ground.data }],
                                  guard := none },
                                { dst := some 139, op := Op.load 33 (Operand.tmp 138), type := 33,
                                  pos := "outright.go:101", after := #[{ on := 3, ground := Ground.data }],
                                  guard := none },
                                { dst := some 140,
                                  op :=
                                    Op.call
                                      { callee := Callee.value (Operand.func 12),
                                        args :=
                                          #[Operand.const (Value.int IntKind.i64 6), Operand.tmp 135, Operand.tmp 139],
                                        argTypes := #[3, 33, 33] },
                                  type := 33, pos := "outright.go:101",
                                  after := #[{ on := 0, ground := Ground.data }, { on := 4, ground := Ground.data }],
                                  guard := none },
                                { dst := none, op := Op.store 33 (Operand.tmp 11) (Operand.tmp 140), type := 0,
                                  pos := "outright.go:101",
                                  after :=
                                    #[{ on := 5, ground := Ground.data }, { on := 5, ground := Ground.chain },
                                      { on := 0, ground := Ground.phase }, { on := 1, ground := Ground.phase },
                                      { on := 2, ground := Ground.phase }, { on := 3, ground := Ground.phase },
                                      { on := 4, ground := Ground.phase }, { on := 5, ground := Ground.phase }],
                                  guard := none }]
                              true))
                          Code.skip)))))))))))
    (Exit.then K' Q)
    {
      tmps :=
        #[Value.slice (some { block := bb, off := oo }) n cap, undef, u2,
          Value.pointer (some { block := w.heap.size, off := 0 }), Value.slice (some { block := gs, off := 0 }) m cs,
          Value.slice (some { block := gi, off := 0 }) m ci, Value.int IntKind.i64 ↑k,
          Value.pointer (some { block := wr.heap.size, off := 0 }), Value.int IntKind.i64 ↑ia,
          Value.int IntKind.i64 ↑ib, Value.pointer (some { block := wr.heap.size + 1, off := 0 }),
          Value.pointer (some { block := wr.heap.size + 1 + 1, off := 0 }), u12, u13, u14, u15, u16, u17, u18, u19, u20,
          u21, u22, u23, u24, u25, u26, u27, u28, u29, u30, u31, Value.bool false, Value.int IntKind.i64 ↑k,
          Value.slice (some { block := bb, off := oo }) n cap, Value.int IntKind.i64 ↑n, Value.bool true,
          Value.bool true, Value.int IntKind.i64 ↑k, Value.bool true, Value.bool true, u41, u42,
          Value.slice (some { block := bb, off := oo }) n cap, Value.int IntKind.i64 ↑k,
          Value.pointer (some { block := bb, off := oo + k * 6 }),
          Value.agg
            #[Value.int IntKind.i64 sk, Value.int IntKind.i64 sa, Value.int IntKind.i64 sb, Value.int IntKind.u64 sx,
              Value.int IntKind.u64 sy, Value.slice la ln lc],
          Value.pointer (some { block := wr.heap.size, off := 1 }), Value.int IntKind.i64 sa,
          Value.slice (some { block := gs, off := 0 }) m cs, Value.int IntKind.i64 ↑m, Value.int IntKind.i64 ↑k,
          Value.int IntKind.i64 ↑ia, Value.pointer (some { block := wr.heap.size, off := 2 }), Value.int IntKind.i64 sb,
          Value.slice (some { block := gs, off := 0 }) m cs, Value.int IntKind.i64 ↑m, Value.int IntKind.i64 ↑k,
          Value.int IntKind.i64 ↑ib, Value.slice (some { block := gs, off := 0 }) m cs, Value.int IntKind.i64 ↑ia,
          Value.pointer (some { block := gs, off := ia }), Value.agg #[Value.slice aa na ca],
          Value.slice (some { block := gi, off := 0 }) m ci, Value.int IntKind.i64 ↑ia,
          Value.pointer (some { block := gi, off := ia * 256 }), Value.agg (ptsV fa),
          Value.pointer (some { block := wr.heap.size, off := 0 }), Value.int IntKind.i64 sk, u69, u70, u71, u72, u73,
          u74, u75, u76, u77, u78, u79, u80, u81, u82, u83, u84, u85, u86, u87, u88, u89, u90, u91, u92, u93, u94, u95,
          u96, u97, u98, u99, u100, u101, u102, u103, u104, u105, u106, u107, u108, u109, u110, u111, u112, u113, u114,
          u115, u116, u117, u118, u119, u120, u121, u122, u123, u124, u125, u126, u127, u128, u129, u130, u131, u132,
          u133, u134, u135, u136, u137, u138, u139, u140, u141, u142, u143, u144, u145, u146, u147, u148, u149, u150,
          u151, u152, u153, u154, u155, u156, u157, u158, u159, u160, u161, u162, u163, u164, u165, u166, u167],
      defers := [] }
    W3 := by
  let Q0 : Exit → Act → World → Prop := bodyPost Try.prog Try.f3 fun _ _ => True
  by_cases hk2 : sk = 2
  · subst hk2
    go_upto_region 16 with fail
    go_cut [71] (fun _ wx => Hid (Rs wr wx st fa (fun q => In q xa ∨ (sx % 256 ≤ q ∧ q ≤ sy % 256))))
    case first =>
      have HEw : Hid (Enters Try.prog 5) := enters_of Try.func5 (by kernel_rfl) rfl
      have HSx : Hid (∀ W', Rd wr W' st (.slice aa na ca) fa → W'.cell? ⟨wr.heap.size, 3, none⟩ = some (.int .u64 sx) ∧ W'.cell? ⟨wr.heap.size, 4, none⟩ = some (.int .u64 sy)) := fun W' h => (HFd.out _ _ _ h).2
      have H3d : Hid (Rd wr W3.drew st (.slice aa na ca) fa) := H3.out.below (Below.refl _ _).drew
      have H3x : Hid (∀ X, Rd wr (W3.drew.alloc X) st (.slice aa na ca) fa) := fun X => H3d.out.below ((Below.refl _ _).alloc (Nat.le_refl _) X)
      have HGd : Hid (∀ W', Rd wr W' st (.slice aa na ca) fa → Own W' w.heap.size (.slice aa na ca) xa) := fun W' h => HGa.out.1.below h.2.2.2 (Nat.le_refl _)
      refine wp_region_held_drew (S := fun w' => w'.cell? ⟨wr.heap.size, 3, none⟩ = some (.int .u64 sx) ∧ w'.cell? ⟨wr.heap.size, 4, none⟩ = some (.int .u64 sy)) (by kernel_rfl) (HSx.out _ H3d.out) (fun hHeld => ?_)
      simp only [List.size_toArray, List.length_cons, List.length_nil]
      refine takeH (i := 1) (d := 72) (v := .pointer (some ⟨wr.heap.size, 3, none⟩)) rfl rfl (by kernel_rfl) (by kernel_rfl) (by kernel_rfl) (fun _ _ _ h => hQ _ _ _ _ _ h) (Or.inl ⟨by kernel_rfl, by intro w hSw; (try dsimp only at hSw); obtain ⟨hSa, hSb⟩ := hSw; go_simp⟩) (by assumption) ?_
      refine takeH (i := 2) (d := 73) (v := .int .u64 sx) rfl rfl (by kernel_rfl) (by kernel_rfl) (by kernel_rfl) (fun _ _ _ h => hQ _ _ _ _ _ h) (Or.inl ⟨by kernel_rfl, by intro w hSw; (try dsimp only at hSw); obtain ⟨hSa, hSb⟩ := hSw; go_simp⟩) (by assumption) ?_
      refine takeH (i := 3) (d := 74) (v := .pointer (some ⟨wr.heap.size, 4, none⟩)) rfl rfl (by kernel_rfl) (by kernel_rfl) (by kernel_rfl) (fun _ _ _ h => hQ _ _ _ _ _ h) (Or.inl ⟨by kernel_rfl, by intro w hSw; (try dsimp only at hSw); obtain ⟨hSa, hSb⟩ := hSw; go_simp⟩) (by assumption) ?_
      refine takeH (i := 4) (d := 75) (v := .int .u64 sy) rfl rfl (by kernel_rfl) (by kernel_rfl) (by kernel_rfl) (fun _ _ _ h => hQ _ _ _ _ _ h) (Or.inl ⟨by kernel_rfl, by intro w hSw; (try dsimp only at hSw); obtain ⟨hSa, hSb⟩ := hSw; go_simp⟩) (by assumption) ?_
      refine wpAnyH_ready (rs := [0, 5]) (by kernel_rfl) (by simp) ?_
      refine readyVal (i := 0) (d := 71) rfl rfl (by kernel_rfl) (.agg #[.slice aa na ca]) (by have hcl : (W3.drew).cell? ⟨wr.heap.size + 1, 0, none⟩ = some (.slice aa na ca) := (H3d.out).box.1; go_simp) (by assumption) ?_ ?_
      · refine wpAnyH_ready (rs := [5]) (by kernel_rfl) (by simp) ?_
        refine readyCall (i := 5) (d := 76) rfl rfl (by kernel_rfl) 6 #[.tmp 73, .tmp 75] #[30, 30] rfl HE6.out #[.int .u64 sx, .int .u64 sy] (by simp [Act.eval, Act.put]) (HPr.out sx sy x0 y0 _) (fun u w' ⟨_, X, e⟩ => e ▸ HSx.out _ (H3x.out X)) ?_ AllReadyH.nil
        rintro u w6 ⟨rfl, X, rfl⟩ hHeld6
        refine wpAnyH_ready (rs := [6]) (by kernel_rfl) (by simp) ?_
        refine readyCall (i := 6) (d := 77) rfl rfl (by kernel_rfl) 5 #[.tmp 71, .tmp 76] #[25, 28] rfl HEw.out #[.agg #[.slice aa na ca], .agg #[.int .u8 (sx % 256), .int .u8 (sy % 256)]] (by simp [Act.eval, Act.put]) (wiP (HGd.out _ (H3x.out X)).sv HGa.out.2.1 (by omega) (by omega)) (fun u w' ⟨_, _, _, _, _, _, _, _, h⟩ => HSx.out _ ((H3x.out X).below h)) ?_ AllReadyH.nil
        rintro u w7 ⟨a7, n7, c7, x7, rfl, ho7, hc7, hi7, hb7⟩ hHeld7
        have H7 := (H3x.out X).below hb7
        obtain ⟨g1, g2⟩ := H7.box
        refine wpAnyH_ready (rs := [7]) (by kernel_rfl) (by simp) ?_
        refine readySkip (i := 7) (w' := w7.setCell ⟨wr.heap.size + 1, 0, none⟩ (.slice a7 n7 c7)) rfl rfl (by kernel_rfl) (by go_simp) (HFd.out _ _ _ (H7.putS _)).2 ?_ AllReadyH.nil
        have HR7 : Hid (Rs wr (w7.setCell ⟨wr.heap.size + 1, 0, none⟩ (.slice a7 n7 c7)) st fa (fun q => In q xa ∨ (sx % 256 ≤ q ∧ q ≤ sy % 256))) := Rs.of (H3x.out X) ho7 hc7 hi7 hb7
        refine wpAnyH_done (by kernel_rfl) ?_ _
        simp only [Act.put, List.setIfInBounds_toArray, List.set_cons_succ, List.set_cons_zero]
        go_wp2_with fail
        go_meet
        exact HR7.out
      · refine readyCall (i := 5) (d := 76) rfl rfl (by kernel_rfl) 6 #[.tmp 73, .tmp 75] #[30, 30] rfl HE6.out #[.int .u64 sx, .int .u64 sy] (by simp [Act.eval, Act.put]) (HPr.out sx sy x0 y0 _) (fun u w' ⟨_, X, e⟩ => e ▸ HSx.out _ (H3x.out X)) ?_ AllReadyH.nil
        rintro u w6 ⟨rfl, X, rfl⟩ hHeld6
        refine wpAnyH_ready (rs := [0]) (by kernel_rfl) (by simp) ?_
        refine readyVal (i := 0) (d := 71) rfl rfl (by kernel_rfl) (.agg #[.slice aa na ca]) (by have hcl : (W3.alloc X).cell? ⟨wr.heap.size + 1, 0, none⟩ = some (.slice aa na ca) := ((H3.out.below ((Below.refl _ _).alloc (Nat.le_refl _) X))).box.1; go_simp) (by assumption) ?_ AllReadyH.nil
        refine wpAnyH_ready (rs := [6]) (by kernel_rfl) (by simp) ?_
        refine readyCall (i := 6) (d := 77) rfl rfl (by kernel_rfl) 5 #[.tmp 71, .tmp 76] #[25, 28] rfl HEw.out #[.agg #[.slice aa na ca], .agg #[.int .u8 (sx % 256), .int .u8 (sy % 256)]] (by simp [Act.eval, Act.put]) (wiP (HGd.out _ (H3x.out X)).sv HGa.out.2.1 (by omega) (by omega)) (fun u w' ⟨_, _, _, _, _, _, _, _, h⟩ => HSx.out _ ((H3x.out X).below h)) ?_ AllReadyH.nil
        rintro u w7 ⟨a7, n7, c7, x7, rfl, ho7, hc7, hi7, hb7⟩ hHeld7
        have H7 := (H3x.out X).below hb7
        obtain ⟨g1, g2⟩ := H7.box
        refine wpAnyH_ready (rs := [7]) (by kernel_rfl) (by simp) ?_
        refine readySkip (i := 7) (w' := w7.setCell ⟨wr.heap.size + 1, 0, none⟩ (.slice a7 n7 c7)) rfl rfl (by kernel_rfl) (by go_simp) (HFd.out _ _ _ (H7.putS _)).2 ?_ AllReadyH.nil
        have HR7 : Hid (Rs wr (w7.setCell ⟨wr.heap.size + 1, 0, none⟩ (.slice a7 n7 c7)) st fa (fun q => In q xa ∨ (sx % 256 ≤ q ∧ q ≤ sy % 256))) := Rs.of (H3x.out X) ho7 hc7 hi7 hb7
        refine wpAnyH_done (by kernel_rfl) ?_ _
        simp only [Act.put, List.setIfInBounds_toArray, List.set_cons_succ, List.set_cons_zero]
        go_wp2_with fail
        go_meet
        exact HR7.out
    case rest =>
      obtain ⟨a8, n8, c8, x8, h8, ho8, hc8, hi8⟩ := hcut.out
      have H8 : Hid (Rd wr wc st (.slice a8 n8 c8) fa) := h8
      have HO8 : Hid (Own wc (wr.heap.size + 3) (.slice a8 n8 c8) x8) := ho8
      have HC8 : Hid (Canon 255 x8) := hc8
      obtain ⟨mx, hmx⟩ : ∃ mx : Nat, sx % 256 = (mx : Int) := ⟨(sx % 256).toNat, by omega⟩
      obtain ⟨my, hmy⟩ : ∃ my : Nat, sy % 256 = (my : Int) := ⟨(sy % 256).toNat, by omega⟩
      have HPt : Hid (Pts (markF fa mx my true) x8) := Pts.mark HGa.out.2.2 (fun q hq => by
        rw [hi8, hmx, hmy]
        by_cases c : mx ≤ q ∧ q ≤ my
        · rw [if_pos c]; exact ⟨fun _ => rfl, fun _ => .inr (by omega)⟩
        · rw [if_neg c]; exact ⟨fun k => k.resolve_right (by omega), .inl⟩)
      have HMk : Hid (∀ W, Calls Try.prog 7 #[.agg (ptsV fa), .int .u64 sx, .int .u64 sy, .bool true] W fun e w' => e = .returned (.agg (ptsV (markF fa mx my true))) ∧ Below W.heap.size W w') := fun W => mark_any hmx hmy W
      obtain ⟨_, f3, f4⟩ := HFd.out _ _ _ H8.out
      clear hcut h8 ho8 hc8 hi8 hmx hmy
      go_wp2_with (first | (refine wpList_load_pts (b := wr.heap.size + 1 + 1) (f := fa) (by rfl) (.tmp 11) (by rfl) (by rfl) (by exact H8.out.2.2.1) ?_) | (go_at_call 7; refine (HMk.out _).mono ?_; rintro e w9 ⟨rfl, hb9⟩; have H9 : Hid (Rd wr w9 st (.slice a8 n8 c8) fa) := H8.out.below hb9; have HO9 : Hid (Own w9 (wr.heap.size + 3) (.slice a8 n8 c8) x8) := HO8.out.below hb9 (Nat.le_refl _); clear hb9) | (refine wpList_store_pts (b := wr.heap.size + 1 + 1) (f := fa) (g := markF fa mx my true) (by rfl) (.tmp 11) (.tmp 83) (by rfl) (by rfl) (by rfl) (by rfl) (by exact H9.out.2.2.1) ?_))
      go_meet
      exact Rz.of HW.out H9.out HO9.out HC8.out HPt.out
  · by_cases hk3 : sk = 3
    · subst hk3
      go_upto_region 19 with fail
      go_cut [86] (fun _ wx => Hid (Rs wr wx st fa (fun q => In q xa ∧ ¬ (sx % 256 ≤ q ∧ q ≤ sy % 256))))
      case first =>
        have HEw : Hid (Enters Try.prog 10) := enters_of Try.func10 (by kernel_rfl) rfl
        have HSx : Hid (∀ W', Rd wr W' st (.slice aa na ca) fa → W'.cell? ⟨wr.heap.size, 3, none⟩ = some (.int .u64 sx) ∧ W'.cell? ⟨wr.heap.size, 4, none⟩ = some (.int .u64 sy)) := fun W' h => (HFd.out _ _ _ h).2
        have H3d : Hid (Rd wr W3.drew st (.slice aa na ca) fa) := H3.out.below (Below.refl _ _).drew
        have H3x : Hid (∀ X, Rd wr (W3.drew.alloc X) st (.slice aa na ca) fa) := fun X => H3d.out.below ((Below.refl _ _).alloc (Nat.le_refl _) X)
        have HGd : Hid (∀ W', Rd wr W' st (.slice aa na ca) fa → Own W' w.heap.size (.slice aa na ca) xa) := fun W' h => HGa.out.1.below h.2.2.2 (Nat.le_refl _)
        refine wp_region_held_drew (S := fun w' => w'.cell? ⟨wr.heap.size, 3, none⟩ = some (.int .u64 sx) ∧ w'.cell? ⟨wr.heap.size, 4, none⟩ = some (.int .u64 sy)) (by kernel_rfl) (HSx.out _ H3d.out) (fun hHeld => ?_)
        simp only [List.size_toArray, List.length_cons, List.length_nil]
        refine takeH (i := 1) (d := 87) (v := .pointer (some ⟨wr.heap.size, 3, none⟩)) rfl rfl (by kernel_rfl) (by kernel_rfl) (by kernel_rfl) (fun _ _ _ h => hQ _ _ _ _ _ h) (Or.inl ⟨by kernel_rfl, by intro w hSw; (try dsimp only at hSw); obtain ⟨hSa, hSb⟩ := hSw; go_simp⟩) (by assumption) ?_
        refine takeH (i := 2) (d := 88) (v := .int .u64 sx) rfl rfl (by kernel_rfl) (by kernel_rfl) (by kernel_rfl) (fun _ _ _ h => hQ _ _ _ _ _ h) (Or.inl ⟨by kernel_rfl, by intro w hSw; (try dsimp only at hSw); obtain ⟨hSa, hSb⟩ := hSw; go_simp⟩) (by assumption) ?_
        refine takeH (i := 3) (d := 89) (v := .pointer (some ⟨wr.heap.size, 4, none⟩)) rfl rfl (by kernel_rfl) (by kernel_rfl) (by kernel_rfl) (fun _ _ _ h => hQ _ _ _ _ _ h) (Or.inl ⟨by kernel_rfl, by intro w hSw; (try dsimp only at hSw); obtain ⟨hSa, hSb⟩ := hSw; go_simp⟩) (by assumption) ?_
        refine takeH (i := 4) (d := 90) (v := .int .u64 sy) rfl rfl (by kernel_rfl) (by kernel_rfl) (by kernel_rfl) (fun _ _ _ h => hQ _ _ _ _ _ h) (Or.inl ⟨by kernel_rfl, by intro w hSw; (try dsimp only at hSw); obtain ⟨hSa, hSb⟩ := hSw; go_simp⟩) (by assumption) ?_
        refine wpAnyH_ready (rs := [0, 5]) (by kernel_rfl) (by simp) ?_
        refine readyVal (i := 0) (d := 86) rfl rfl (by kernel_rfl) (.agg #[.slice aa na ca]) (by have hcl : (W3.drew).cell? ⟨wr.heap.size + 1, 0, none⟩ = some (.slice aa na ca) := (H3d.out).box.1; go_simp) (by assumption) ?_ ?_
        · refine wpAnyH_ready (rs := [5]) (by kernel_rfl) (by simp) ?_
          refine readyCall (i := 5) (d := 91) rfl rfl (by kernel_rfl) 6 #[.tmp 88, .tmp 90] #[30, 30] rfl HE6.out #[.int .u64 sx, .int .u64 sy] (by simp [Act.eval, Act.put]) (HPr.out sx sy x0 y0 _) (fun u w' ⟨_, X, e⟩ => e ▸ HSx.out _ (H3x.out X)) ?_ AllReadyH.nil
          rintro u w6 ⟨rfl, X, rfl⟩ hHeld6
          refine wpAnyH_ready (rs := [6]) (by kernel_rfl) (by simp) ?_
          refine readyCall (i := 6) (d := 92) rfl rfl (by kernel_rfl) 10 #[.tmp 86, .tmp 91] #[25, 28] rfl HEw.out #[.agg #[.slice aa na ca], .agg #[.int .u8 (sx % 256), .int .u8 (sy % 256)]] (by simp [Act.eval, Act.put]) (woP (HGd.out _ (H3x.out X)).sv HGa.out.2.1 (by omega) (by omega)) (fun u w' ⟨_, _, _, _, _, _, _, _, h⟩ => HSx.out _ ((H3x.out X).below h)) ?_ AllReadyH.nil
          rintro u w7 ⟨a7, n7, c7, x7, rfl, ho7, hc7, hi7, hb7⟩ hHeld7
          have H7 := (H3x.out X).below hb7
          obtain ⟨g1, g2⟩ := H7.box
          refine wpAnyH_ready (rs := [7]) (by kernel_rfl) (by simp) ?_
          refine readySkip (i := 7) (w' := w7.setCell ⟨wr.heap.size + 1, 0, none⟩ (.slice a7 n7 c7)) rfl rfl (by kernel_rfl) (by go_simp) (HFd.out _ _ _ (H7.putS _)).2 ?_ AllReadyH.nil
          have HR7 : Hid (Rs wr (w7.setCell ⟨wr.heap.size + 1, 0, none⟩ (.slice a7 n7 c7)) st fa (fun q => In q xa ∧ ¬ (sx % 256 ≤ q ∧ q ≤ sy % 256))) := Rs.of (H3x.out X) ho7 hc7 hi7 hb7
          refine wpAnyH_done (by kernel_rfl) ?_ _
          simp only [Act.put, List.setIfInBounds_toArray, List.set_cons_succ, List.set_cons_zero]
          go_wp2_with fail
          go_meet
          exact HR7.out
        · refine readyCall (i := 5) (d := 91) rfl rfl (by kernel_rfl) 6 #[.tmp 88, .tmp 90] #[30, 30] rfl HE6.out #[.int .u64 sx, .int .u64 sy] (by simp [Act.eval, Act.put]) (HPr.out sx sy x0 y0 _) (fun u w' ⟨_, X, e⟩ => e ▸ HSx.out _ (H3x.out X)) ?_ AllReadyH.nil
          rintro u w6 ⟨rfl, X, rfl⟩ hHeld6
          refine wpAnyH_ready (rs := [0]) (by kernel_rfl) (by simp) ?_
          refine readyVal (i := 0) (d := 86) rfl rfl (by kernel_rfl) (.agg #[.slice aa na ca]) (by have hcl : (W3.alloc X).cell? ⟨wr.heap.size + 1, 0, none⟩ = some (.slice aa na ca) := ((H3.out.below ((Below.refl _ _).alloc (Nat.le_refl _) X))).box.1; go_simp) (by assumption) ?_ AllReadyH.nil
          refine wpAnyH_ready (rs := [6]) (by kernel_rfl) (by simp) ?_
          refine readyCall (i := 6) (d := 92) rfl rfl (by kernel_rfl) 10 #[.tmp 86, .tmp 91] #[25, 28] rfl HEw.out #[.agg #[.slice aa na ca], .agg #[.int .u8 (sx % 256), .int .u8 (sy % 256)]] (by simp [Act.eval, Act.put]) (woP (HGd.out _ (H3x.out X)).sv HGa.out.2.1 (by omega) (by omega)) (fun u w' ⟨_, _, _, _, _, _, _, _, h⟩ => HSx.out _ ((H3x.out X).below h)) ?_ AllReadyH.nil
          rintro u w7 ⟨a7, n7, c7, x7, rfl, ho7, hc7, hi7, hb7⟩ hHeld7
          have H7 := (H3x.out X).below hb7
          obtain ⟨g1, g2⟩ := H7.box
          refine wpAnyH_ready (rs := [7]) (by kernel_rfl) (by simp) ?_
          refine readySkip (i := 7) (w' := w7.setCell ⟨wr.heap.size + 1, 0, none⟩ (.slice a7 n7 c7)) rfl rfl (by kernel_rfl) (by go_simp) (HFd.out _ _ _ (H7.putS _)).2 ?_ AllReadyH.nil
          have HR7 : Hid (Rs wr (w7.setCell ⟨wr.heap.size + 1, 0, none⟩ (.slice a7 n7 c7)) st fa (fun q => In q xa ∧ ¬ (sx % 256 ≤ q ∧ q ≤ sy % 256))) := Rs.of (H3x.out X) ho7 hc7 hi7 hb7
          refine wpAnyH_done (by kernel_rfl) ?_ _
          simp only [Act.put, List.setIfInBounds_toArray, List.set_cons_succ, List.set_cons_zero]
          go_wp2_with fail
          go_meet
          exact HR7.out
      case rest =>
        obtain ⟨a8, n8, c8, x8, h8, ho8, hc8, hi8⟩ := hcut.out
        have H8 : Hid (Rd wr wc st (.slice a8 n8 c8) fa) := h8
        have HO8 : Hid (Own wc (wr.heap.size + 3) (.slice a8 n8 c8) x8) := ho8
        have HC8 : Hid (Canon 255 x8) := hc8
        obtain ⟨mx, hmx⟩ : ∃ mx : Nat, sx % 256 = (mx : Int) := ⟨(sx % 256).toNat, by omega⟩
        obtain ⟨my, hmy⟩ : ∃ my : Nat, sy % 256 = (my : Int) := ⟨(sy % 256).toNat, by omega⟩
        have HPt : Hid (Pts (markF fa mx my false) x8) := Pts.mark HGa.out.2.2 (fun q hq => by
          rw [hi8, hmx, hmy]
          by_cases c : mx ≤ q ∧ q ≤ my
          · rw [if_pos c]; exact ⟨fun k => absurd (by omega) k.2, fun k => by cases k⟩
          · rw [if_neg c]; exact ⟨fun k => k.1, fun k => ⟨k, by omega⟩⟩)
        have HMk : Hid (∀ W, Calls Try.prog 7 #[.agg (ptsV fa), .int .u64 sx, .int .u64 sy, .bool false] W fun e w' => e = .returned (.agg (ptsV (markF fa mx my false))) ∧ Below W.heap.size W w') := fun W => mark_any hmx hmy W
        obtain ⟨_, f3, f4⟩ := HFd.out _ _ _ H8.out
        clear hcut h8 ho8 hc8 hi8 hmx hmy
        go_wp2_with (first | (refine wpList_load_pts (b := wr.heap.size + 1 + 1) (f := fa) (by rfl) (.tmp 11) (by rfl) (by rfl) (by exact H8.out.2.2.1) ?_) | (go_at_call 7; refine (HMk.out _).mono ?_; rintro e w9 ⟨rfl, hb9⟩; have H9 : Hid (Rd wr w9 st (.slice a8 n8 c8) fa) := H8.out.below hb9; have HO9 : Hid (Own w9 (wr.heap.size + 3) (.slice a8 n8 c8) x8) := HO8.out.below hb9 (Nat.le_refl _); clear hb9) | (refine wpList_store_pts (b := wr.heap.size + 1 + 1) (f := fa) (g := markF fa mx my false) (by rfl) (.tmp 11) (.tmp 98) (by rfl) (by rfl) (by rfl) (by rfl) (by exact H9.out.2.2.1) ?_))
        go_meet
        exact Rz.of HW.out H9.out HO9.out HC8.out HPt.out
    · by_cases hk4 : sk = 4
      · subst hk4
        go_upto_region 22 with fail
        go_cut [101] (fun _ wx => Hid (Rs wr wx st fa (fun q => In q xa ∨ In q xb)))
        case first =>
          have HEw : Hid (Enters Try.prog 11) := enters_of Try.func11 (by kernel_rfl) rfl
          have HSx : Hid (∀ W' v' f', Rd wr W' st v' f' → W'.cell? ⟨gs, ib, none⟩ = some (.slice ab nb cb)) := fun W' v' f' h => HSb.out _ h.2.2.2
          have H3d : Hid (Rd wr W3.drew st (.slice aa na ca) fa) := H3.out.below (Below.refl _ _).drew
          have HGd : Hid (Own W3.drew w.heap.size (.slice aa na ca) xa) := HGa.out.1.below H3d.out.2.2.2 (Nat.le_refl _)
          have HGe : Hid (Own W3.drew w.heap.size (.slice ab nb cb) xb) := HGb.out.1.below H3d.out.2.2.2 (Nat.le_refl _)
          refine wp_region_held_drew (S := fun w' => w'.cell? ⟨gs, ib, none⟩ = some (.slice ab nb cb)) (by kernel_rfl) (HSx.out _ _ _ H3d.out) (fun hHeld => ?_)
          simp only [List.size_toArray, List.length_cons, List.length_nil]
          refine takeH (i := 1) (d := 102) (v := .slice (some ⟨gs, 0, none⟩) m cs) rfl rfl (by kernel_rfl) (by kernel_rfl) (by kernel_rfl) (fun _ _ _ h => hQ _ _ _ _ _ h) (Or.inl ⟨by kernel_rfl, by intro w hSw; (try dsimp only at hSw); go_simp⟩) (by assumption) ?_
          refine takeH (i := 2) (d := 103) (v := .int .i64 (ib : Int)) rfl rfl (by kernel_rfl) (by kernel_rfl) (by kernel_rfl) (fun _ _ _ h => hQ _ _ _ _ _ h) (Or.inl ⟨by kernel_rfl, by intro w hSw; (try dsimp only at hSw); go_simp⟩) (by assumption) ?_
          refine takeH (i := 3) (d := 104) (v := .pointer (some ⟨gs, ib, none⟩)) rfl rfl (by kernel_rfl) (by kernel_rfl) (by kernel_rfl) (fun _ _ _ h => hQ _ _ _ _ _ h) (Or.inl ⟨by kernel_rfl, by intro w hSw; (try dsimp only at hSw); go_simp⟩) (by assumption) ?_
          refine takeH (i := 4) (d := 105) (v := .agg #[.slice ab nb cb]) rfl rfl (by kernel_rfl) (by kernel_rfl) (by kernel_rfl) (fun _ _ _ h => hQ _ _ _ _ _ h) (Or.inl ⟨by kernel_rfl, by intro w hSw; (try dsimp only at hSw); go_simp⟩) (by assumption) ?_
          refine wpAnyH_ready (rs := [0]) (by kernel_rfl) (by simp) ?_
          refine readyVal (i := 0) (d := 101) rfl rfl (by kernel_rfl) (.agg #[.slice aa na ca]) (by have hcl : (W3.drew).cell? ⟨wr.heap.size + 1, 0, none⟩ = some (.slice aa na ca) := H3d.out.box.1; go_simp) (by assumption) ?_ AllReadyH.nil
          refine wpAnyH_ready (rs := [5]) (by kernel_rfl) (by simp) ?_
          refine readyCall (i := 5) (d := 106) rfl rfl (by kernel_rfl) 11 #[.tmp 101, .tmp 105] #[25, 25] rfl HEw.out #[.agg #[.slice aa na ca], .agg #[.slice ab nb cb]] (by simp [Act.eval, Act.put]) (orP HGd.out.sv HGa.out.2.1 HGe.out.sv HGb.out.2.1) (fun u w' ⟨_, _, _, _, _, _, _, _, h⟩ => HSx.out _ _ _ (H3d.out.below h)) ?_ AllReadyH.nil
          rintro u w7 ⟨a7, n7, c7, x7, rfl, ho7, hc7, hi7, hb7⟩ hHeld7
          have H7 := H3d.out.below hb7
          obtain ⟨g1, g2⟩ := H7.box
          refine wpAnyH_ready (rs := [6]) (by kernel_rfl) (by simp) ?_
          refine readySkip (i := 6) (w' := w7.setCell ⟨wr.heap.size + 1, 0, none⟩ (.slice a7 n7 c7)) rfl rfl (by kernel_rfl) (by go_simp) (HSx.out _ _ _ (H7.putS _)) ?_ AllReadyH.nil
          have HR7 : Hid (Rs wr (w7.setCell ⟨wr.heap.size + 1, 0, none⟩ (.slice a7 n7 c7)) st fa (fun q => In q xa ∨ In q xb)) := Rs.of H3d.out ho7 hc7 hi7 hb7
          refine wpAnyH_done (by kernel_rfl) ?_ _
          simp only [Act.put, List.setIfInBounds_toArray, List.set_cons_succ, List.set_cons_zero]
          go_wp2_with fail
          go_meet
          exact HR7.out
        case rest =>
          obtain ⟨a8, n8, c8, x8, h8, ho8, hc8, hi8⟩ := hcut.out
          have H8 : Hid (Rd wr wc.drew st (.slice a8 n8 c8) fa) := h8.below (Below.refl _ _).drew
          have HO8 : Hid (Own wc.drew (wr.heap.size + 3) (.slice a8 n8 c8) x8) := ho8.below (Below.refl _ _).drew (Nat.le_refl _)
          have HC8 : Hid (Canon 255 x8) := hc8
          have HPt : Hid (Pts (fun q => fa q || fb q) x8) := Pts.or HGa.out.2.2 HGb.out.2.2 hi8
          have HEm : Hid (Enters Try.prog 12) := enters_of Try.func12 (by kernel_rfl) rfl
          have HSx : Hid (∀ W' v' f', Rd wr W' st v' f' → PtsIn W' gi (ib * 256) fb) := fun W' v' f' h => HIb.out _ h.2.2.2
          have HMd : Hid (∀ W, Calls Try.prog 12 #[.int .i64 4, .agg (ptsV fa), .agg (ptsV fb)] W fun e w' => ∃ u, e = .returned u ∧ u = .agg (ptsV fun q => fa q || fb q) ∧ Below W.heap.size W w') := fun W => (madeOr_any W).mono fun e w' h => ⟨_, h.1, rfl, h.2⟩
          clear hcut h8 ho8 hc8 hi8
          go_upto_region 23 with fail
          refine wp_region_held_drew (S := fun w' => PtsIn w' gi (ib * 256) fb) (by kernel_rfl) (HSx.out _ _ _ H8.out) (fun hHeld => ?_)
          simp only [List.size_toArray, List.length_cons, List.length_nil]
          refine takeH (i := 1) (d := 108) (v := .slice (some ⟨gi, 0, none⟩) m ci) rfl rfl (by kernel_rfl) (by kernel_rfl) (by kernel_rfl) (fun _ _ _ h => hQ _ _ _ _ _ h) (Or.inl ⟨by kernel_rfl, by intro w hSw; (try dsimp only at hSw); go_simp⟩) (by assumption) ?_
          refine takeH (i := 2) (d := 109) (v := .int .i64 (ib : Int)) rfl rfl (by kernel_rfl) (by kernel_rfl) (by kernel_rfl) (fun _ _ _ h => hQ _ _ _ _ _ h) (Or.inl ⟨by kernel_rfl, by intro w hSw; (try dsimp only at hSw); go_simp⟩) (by assumption) ?_
          refine takeH (i := 3) (d := 110) (v := .pointer (some ⟨gi, ib * 256, none⟩)) rfl rfl (by kernel_rfl) (by kernel_rfl) (by kernel_rfl) (fun _ _ _ h => hQ _ _ _ _ _ h) (Or.inl ⟨by kernel_rfl, by intro w hSw; (try dsimp only at hSw); go_simp⟩) (by assumption) ?_
          refine takeH (i := 4) (d := 111) (v := .agg (ptsV fb)) rfl rfl (by kernel_rfl) (by kernel_rfl) (by kernel_rfl) (fun _ _ _ h => hQ _ _ _ _ _ h) (Or.inl ⟨by kernel_rfl, fun w' hSw => loadIn_exec (x := .tmp 110) rfl (by simp [Act.eval, Act.put]) hSw⟩) (by assumption) ?_
          refine wpAnyH_ready (rs := [0]) (by kernel_rfl) (by simp) ?_
          refine readyVal (i := 0) (d := 107) rfl rfl (by kernel_rfl) (.agg (ptsV fa)) (load_exec (x := .tmp 11) rfl (by simp [Act.eval, Act.put]) H8.out.2.2.1) (by assumption) ?_ AllReadyH.nil
          refine wpAnyH_ready (rs := [5]) (by kernel_rfl) (by simp) ?_
          refine readyCall (i := 5) (d := 112) rfl rfl (by kernel_rfl) 12 #[.const (.int .i64 4), .tmp 107, .tmp 111] #[3, 33, 33] rfl HEm.out #[.int .i64 4, .agg (ptsV fa), .agg (ptsV fb)] (by simp [Act.eval, Act.put]) (HMd.out _) (fun u w' ⟨_, h⟩ => HSx.out _ _ _ (H8.out.below h)) ?_ AllReadyH.nil
          rintro u w9 ⟨rfl, hb9⟩ hHeld9
          have H9 : Hid (Rd wr w9 st (.slice a8 n8 c8) fa) := H8.out.below hb9
          have HO9 : Hid (Own w9 (wr.heap.size + 3) (.slice a8 n8 c8) x8) := HO8.out.below hb9 (Nat.le_refl _)
          refine wpAnyH_ready (rs := [6]) (by kernel_rfl) (by simp) ?_
          refine readySkip (i := 6) (w' := w9.setRow (wr.heap.size + 1 + 1) (ptsV fun q => fa q || fb q)) rfl rfl (by kernel_rfl) (store_exec (x := .tmp 11) (y := .tmp 112) rfl (by simp [Act.eval, Act.put]) (by simp [Act.eval, Act.put]) H9.out.2.2.1) (HSx.out _ _ _ (H9.out.putT _)) ?_ AllReadyH.nil
          clear hb9 hHeld hHeld9
          refine wpAnyH_done (by kernel_rfl) ?_ _
          simp only [Act.put, List.setIfInBounds_toArray, List.set_cons_succ, List.set_cons_zero]
          go_wp2_with fail
          go_meet
          exact Rz.of HW.out H9.out HO9.out HC8.out HPt.out
      · by_cases hk5 : sk = 5
        · subst hk5
          go_upto_region 25 with fail
          go_cut [115] (fun _ wx => Hid (Rs wr wx st fa (fun q => In q xa ∧ In q xb)))
          case first =>
            have HEw : Hid (Enters Try.prog 13) := enters_of Try.func13 (by kernel_rfl) rfl
            have HSx : Hid (∀ W' v' f', Rd wr W' st v' f' → W'.cell? ⟨gs, ib, none⟩ = some (.slice ab nb cb)) := fun W' v' f' h => HSb.out _ h.2.2.2
            have H3d : Hid (Rd wr W3.drew st (.slice aa na ca) fa) := H3.out.below (Below.refl _ _).drew
            have HGd : Hid (Own W3.drew w.heap.size (.slice aa na ca) xa) := HGa.out.1.below H3d.out.2.2.2 (Nat.le_refl _)
            have HGe : Hid (Own W3.drew w.heap.size (.slice ab nb cb) xb) := HGb.out.1.below H3d.out.2.2.2 (Nat.le_refl _)
            refine wp_region_held_drew (S := fun w' => w'.cell? ⟨gs, ib, none⟩ = some (.slice ab nb cb)) (by kernel_rfl) (HSx.out _ _ _ H3d.out) (fun hHeld => ?_)
            simp only [List.size_toArray, List.length_cons, List.length_nil]
            refine takeH (i := 1) (d := 116) (v := .slice (some ⟨gs, 0, none⟩) m cs) rfl rfl (by kernel_rfl) (by kernel_rfl) (by kernel_rfl) (fun _ _ _ h => hQ _ _ _ _ _ h) (Or.inl ⟨by kernel_rfl, by intro w hSw; (try dsimp only at hSw); go_simp⟩) (by assumption) ?_
            refine takeH (i := 2) (d := 117) (v := .int .i64 (ib : Int)) rfl rfl (by kernel_rfl) (by kernel_rfl) (by kernel_rfl) (fun _ _ _ h => hQ _ _ _ _ _ h) (Or.inl ⟨by kernel_rfl, by intro w hSw; (try dsimp only at hSw); go_simp⟩) (by assumption) ?_
            refine takeH (i := 3) (d := 118) (v := .pointer (some ⟨gs, ib, none⟩)) rfl rfl (by kernel_rfl) (by kernel_rfl) (by kernel_rfl) (fun _ _ _ h => hQ _ _ _ _ _ h) (Or.inl ⟨by kernel_rfl, by intro w hSw; (try dsimp only at hSw); go_simp⟩) (by assumption) ?_
            refine takeH (i := 4) (d := 119) (v := .agg #[.slice ab nb cb]) rfl rfl (by kernel_rfl) (by kernel_rfl) (by kernel_rfl) (fun _ _ _ h => hQ _ _ _ _ _ h) (Or.inl ⟨by kernel_rfl, by intro w hSw; (try dsimp only at hSw); go_simp⟩) (by assumption) ?_
            refine wpAnyH_ready (rs := [0]) (by kernel_rfl) (by simp) ?_
            refine readyVal (i := 0) (d := 115) rfl rfl (by kernel_rfl) (.agg #[.slice aa na ca]) (by have hcl : (W3.drew).cell? ⟨wr.heap.size + 1, 0, none⟩ = some (.slice aa na ca) := H3d.out.box.1; go_simp) (by assumption) ?_ AllReadyH.nil
            refine wpAnyH_ready (rs := [5]) (by kernel_rfl) (by simp) ?_
            refine readyCall (i := 5) (d := 120) rfl rfl (by kernel_rfl) 13 #[.tmp 115, .tmp 119] #[25, 25] rfl HEw.out #[.agg #[.slice aa na ca], .agg #[.slice ab nb cb]] (by simp [Act.eval, Act.put]) (meetP HGd.out.sv HGa.out.2.1 HGe.out.sv HGb.out.2.1) (fun u w' ⟨_, _, _, _, _, _, _, _, h⟩ => HSx.out _ _ _ (H3d.out.below h)) ?_ AllReadyH.nil
            rintro u w7 ⟨a7, n7, c7, x7, rfl, ho7, hc7, hi7, hb7⟩ hHeld7
            have H7 := H3d.out.below hb7
            obtain ⟨g1, g2⟩ := H7.box
            refine wpAnyH_ready (rs := [6]) (by kernel_rfl) (by simp) ?_
            refine readySkip (i := 6) (w' := w7.setCell ⟨wr.heap.size + 1, 0, none⟩ (.slice a7 n7 c7)) rfl rfl (by kernel_rfl) (by go_simp) (HSx.out _ _ _ (H7.putS _)) ?_ AllReadyH.nil
            have HR7 : Hid (Rs wr (w7.setCell ⟨wr.heap.size + 1, 0, none⟩ (.slice a7 n7 c7)) st fa (fun q => In q xa ∧ In q xb)) := Rs.of H3d.out ho7 hc7 hi7 hb7
            refine wpAnyH_done (by kernel_rfl) ?_ _
            simp only [Act.put, List.setIfInBounds_toArray, List.set_cons_succ, List.set_cons_zero]
            go_wp2_with fail
            go_meet
            exact HR7.out
          case rest =>
            obtain ⟨a8, n8, c8, x8, h8, ho8, hc8, hi8⟩ := hcut.out
            have H8 : Hid (Rd wr wc.drew st (.slice a8 n8 c8) fa) := h8.below (Below.refl _ _).drew
            have HO8 : Hid (Own wc.drew (wr.heap.size + 3) (.slice a8 n8 c8) x8) := ho8.below (Below.refl _ _).drew (Nat.le_refl _)
            have HC8 : Hid (Canon 255 x8) := hc8
            have HPt : Hid (Pts (fun q => fa q && fb q) x8) := Pts.meet HGa.out.2.2 HGb.out.2.2 hi8
            have HEm : Hid (Enters Try.prog 12) := enters_of Try.func12 (by kernel_rfl) rfl
            have HSx : Hid (∀ W' v' f', Rd wr W' st v' f' → PtsIn W' gi (ib * 256) fb) := fun W' v' f' h => HIb.out _ h.2.2.2
            have HMd : Hid (∀ W, Calls Try.prog 12 #[.int .i64 5, .agg (ptsV fa), .agg (ptsV fb)] W fun e w' => ∃ u, e = .returned u ∧ u = .agg (ptsV fun q => fa q && fb q) ∧ Below W.heap.size W w') := fun W => (madeMeet_any W).mono fun e w' h => ⟨_, h.1, rfl, h.2⟩
            clear hcut h8 ho8 hc8 hi8
            go_upto_region 26 with fail
            refine wp_region_held_drew (S := fun w' => PtsIn w' gi (ib * 256) fb) (by kernel_rfl) (HSx.out _ _ _ H8.out) (fun hHeld => ?_)
            simp only [List.size_toArray, List.length_cons, List.length_nil]
            refine takeH (i := 1) (d := 122) (v := .slice (some ⟨gi, 0, none⟩) m ci) rfl rfl (by kernel_rfl) (by kernel_rfl) (by kernel_rfl) (fun _ _ _ h => hQ _ _ _ _ _ h) (Or.inl ⟨by kernel_rfl, by intro w hSw; (try dsimp only at hSw); go_simp⟩) (by assumption) ?_
            refine takeH (i := 2) (d := 123) (v := .int .i64 (ib : Int)) rfl rfl (by kernel_rfl) (by kernel_rfl) (by kernel_rfl) (fun _ _ _ h => hQ _ _ _ _ _ h) (Or.inl ⟨by kernel_rfl, by intro w hSw; (try dsimp only at hSw); go_simp⟩) (by assumption) ?_
            refine takeH (i := 3) (d := 124) (v := .pointer (some ⟨gi, ib * 256, none⟩)) rfl rfl (by kernel_rfl) (by kernel_rfl) (by kernel_rfl) (fun _ _ _ h => hQ _ _ _ _ _ h) (Or.inl ⟨by kernel_rfl, by intro w hSw; (try dsimp only at hSw); go_simp⟩) (by assumption) ?_
            refine takeH (i := 4) (d := 125) (v := .agg (ptsV fb)) rfl rfl (by kernel_rfl) (by kernel_rfl) (by kernel_rfl) (fun _ _ _ h => hQ _ _ _ _ _ h) (Or.inl ⟨by kernel_rfl, fun w' hSw => loadIn_exec (x := .tmp 124) rfl (by simp [Act.eval, Act.put]) hSw⟩) (by assumption) ?_
            refine wpAnyH_ready (rs := [0]) (by kernel_rfl) (by simp) ?_
            refine readyVal (i := 0) (d := 121) rfl rfl (by kernel_rfl) (.agg (ptsV fa)) (load_exec (x := .tmp 11) rfl (by simp [Act.eval, Act.put]) H8.out.2.2.1) (by assumption) ?_ AllReadyH.nil
            refine wpAnyH_ready (rs := [5]) (by kernel_rfl) (by simp) ?_
            refine readyCall (i := 5) (d := 126) rfl rfl (by kernel_rfl) 12 #[.const (.int .i64 5), .tmp 121, .tmp 125] #[3, 33, 33] rfl HEm.out #[.int .i64 5, .agg (ptsV fa), .agg (ptsV fb)] (by simp [Act.eval, Act.put]) (HMd.out _) (fun u w' ⟨_, h⟩ => HSx.out _ _ _ (H8.out.below h)) ?_ AllReadyH.nil
            rintro u w9 ⟨rfl, hb9⟩ hHeld9
            have H9 : Hid (Rd wr w9 st (.slice a8 n8 c8) fa) := H8.out.below hb9
            have HO9 : Hid (Own w9 (wr.heap.size + 3) (.slice a8 n8 c8) x8) := HO8.out.below hb9 (Nat.le_refl _)
            refine wpAnyH_ready (rs := [6]) (by kernel_rfl) (by simp) ?_
            refine readySkip (i := 6) (w' := w9.setRow (wr.heap.size + 1 + 1) (ptsV fun q => fa q && fb q)) rfl rfl (by kernel_rfl) (store_exec (x := .tmp 11) (y := .tmp 126) rfl (by simp [Act.eval, Act.put]) (by simp [Act.eval, Act.put]) H9.out.2.2.1) (HSx.out _ _ _ (H9.out.putT _)) ?_ AllReadyH.nil
            clear hb9 hHeld hHeld9
            refine wpAnyH_done (by kernel_rfl) ?_ _
            simp only [Act.put, List.setIfInBounds_toArray, List.set_cons_succ, List.set_cons_zero]
            go_wp2_with fail
            go_meet
            exact Rz.of HW.out H9.out HO9.out HC8.out HPt.out
        · by_cases hk6 : sk = 6
          · subst hk6
            go_upto_region 28 with fail
            go_cut [129] (fun _ wx => Hid (Rs wr wx st fa (fun q => In q xa ∧ ¬ In q xb)))
            case first =>
              have HEw : Hid (Enters Try.prog 14) := enters_of Try.func14 (by kernel_rfl) rfl
              have HSx : Hid (∀ W' v' f', Rd wr W' st v' f' → W'.cell? ⟨gs, ib, none⟩ = some (.slice ab nb cb)) := fun W' v' f' h => HSb.out _ h.2.2.2
              have H3d : Hid (Rd wr W3.drew st (.slice aa na ca) fa) := H3.out.below (Below.refl _ _).drew
              have HGd : Hid (Own W3.drew w.heap.size (.slice aa na ca) xa) := HGa.out.1.below H3d.out.2.2.2 (Nat.le_refl _)
              have HGe : Hid (Own W3.drew w.heap.size (.slice ab nb cb) xb) := HGb.out.1.below H3d.out.2.2.2 (Nat.le_refl _)
              refine wp_region_held_drew (S := fun w' => w'.cell? ⟨gs, ib, none⟩ = some (.slice ab nb cb)) (by kernel_rfl) (HSx.out _ _ _ H3d.out) (fun hHeld => ?_)
              simp only [List.size_toArray, List.length_cons, List.length_nil]
              refine takeH (i := 1) (d := 130) (v := .slice (some ⟨gs, 0, none⟩) m cs) rfl rfl (by kernel_rfl) (by kernel_rfl) (by kernel_rfl) (fun _ _ _ h => hQ _ _ _ _ _ h) (Or.inl ⟨by kernel_rfl, by intro w hSw; (try dsimp only at hSw); go_simp⟩) (by assumption) ?_
              refine takeH (i := 2) (d := 131) (v := .int .i64 (ib : Int)) rfl rfl (by kernel_rfl) (by kernel_rfl) (by kernel_rfl) (fun _ _ _ h => hQ _ _ _ _ _ h) (Or.inl ⟨by kernel_rfl, by intro w hSw; (try dsimp only at hSw); go_simp⟩) (by assumption) ?_
              refine takeH (i := 3) (d := 132) (v := .pointer (some ⟨gs, ib, none⟩)) rfl rfl (by kernel_rfl) (by kernel_rfl) (by kernel_rfl) (fun _ _ _ h => hQ _ _ _ _ _ h) (Or.inl ⟨by kernel_rfl, by intro w hSw; (try dsimp only at hSw); go_simp⟩) (by assumption) ?_
              refine takeH (i := 4) (d := 133) (v := .agg #[.slice ab nb cb]) rfl rfl (by kernel_rfl) (by kernel_rfl) (by kernel_rfl) (fun _ _ _ h => hQ _ _ _ _ _ h) (Or.inl ⟨by kernel_rfl, by intro w hSw; (try dsimp only at hSw); go_simp⟩) (by assumption) ?_
              refine wpAnyH_ready (rs := [0]) (by kernel_rfl) (by simp) ?_
              refine readyVal (i := 0) (d := 129) rfl rfl (by kernel_rfl) (.agg #[.slice aa na ca]) (by have hcl : (W3.drew).cell? ⟨wr.heap.size + 1, 0, none⟩ = some (.slice aa na ca) := H3d.out.box.1; go_simp) (by assumption) ?_ AllReadyH.nil
              refine wpAnyH_ready (rs := [5]) (by kernel_rfl) (by simp) ?_
              refine readyCall (i := 5) (d := 134) rfl rfl (by kernel_rfl) 14 #[.tmp 129, .tmp 133] #[25, 25] rfl HEw.out #[.agg #[.slice aa na ca], .agg #[.slice ab nb cb]] (by simp [Act.eval, Act.put]) (lessP HGd.out.sv HGa.out.2.1 HGe.out.sv HGb.out.2.1) (fun u w' ⟨_, _, _, _, _, _, _, _, h⟩ => HSx.out _ _ _ (H3d.out.below h)) ?_ AllReadyH.nil
              rintro u w7 ⟨a7, n7, c7, x7, rfl, ho7, hc7, hi7, hb7⟩ hHeld7
              have H7 := H3d.out.below hb7
              obtain ⟨g1, g2⟩ := H7.box
              refine wpAnyH_ready (rs := [6]) (by kernel_rfl) (by simp) ?_
              refine readySkip (i := 6) (w' := w7.setCell ⟨wr.heap.size + 1, 0, none⟩ (.slice a7 n7 c7)) rfl rfl (by kernel_rfl) (by go_simp) (HSx.out _ _ _ (H7.putS _)) ?_ AllReadyH.nil
              have HR7 : Hid (Rs wr (w7.setCell ⟨wr.heap.size + 1, 0, none⟩ (.slice a7 n7 c7)) st fa (fun q => In q xa ∧ ¬ In q xb)) := Rs.of H3d.out ho7 hc7 hi7 hb7
              refine wpAnyH_done (by kernel_rfl) ?_ _
              simp only [Act.put, List.setIfInBounds_toArray, List.set_cons_succ, List.set_cons_zero]
              go_wp2_with fail
              go_meet
              exact HR7.out
            case rest =>
              obtain ⟨a8, n8, c8, x8, h8, ho8, hc8, hi8⟩ := hcut.out
              have H8 : Hid (Rd wr wc.drew st (.slice a8 n8 c8) fa) := h8.below (Below.refl _ _).drew
              have HO8 : Hid (Own wc.drew (wr.heap.size + 3) (.slice a8 n8 c8) x8) := ho8.below (Below.refl _ _).drew (Nat.le_refl _)
              have HC8 : Hid (Canon 255 x8) := hc8
              have HPt : Hid (Pts (fun q => fa q && !fb q) x8) := Pts.less HGa.out.2.2 HGb.out.2.2 hi8
              have HEm : Hid (Enters Try.prog 12) := enters_of Try.func12 (by kernel_rfl) rfl
              have HSx : Hid (∀ W' v' f', Rd wr W' st v' f' → PtsIn W' gi (ib * 256) fb) := fun W' v' f' h => HIb.out _ h.2.2.2
              have HMd : Hid (∀ W, Calls Try.prog 12 #[.int .i64 6, .agg (ptsV fa), .agg (ptsV fb)] W fun e w' => ∃ u, e = .returned u ∧ u = .agg (ptsV fun q => fa q && !fb q) ∧ Below W.heap.size W w') := fun W => (madeLess_any W).mono fun e w' h => ⟨_, h.1, rfl, h.2⟩
              clear hcut h8 ho8 hc8 hi8
              go_upto_region 29 with fail
              refine wp_region_held_drew (S := fun w' => PtsIn w' gi (ib * 256) fb) (by kernel_rfl) (HSx.out _ _ _ H8.out) (fun hHeld => ?_)
              simp only [List.size_toArray, List.length_cons, List.length_nil]
              refine takeH (i := 1) (d := 136) (v := .slice (some ⟨gi, 0, none⟩) m ci) rfl rfl (by kernel_rfl) (by kernel_rfl) (by kernel_rfl) (fun _ _ _ h => hQ _ _ _ _ _ h) (Or.inl ⟨by kernel_rfl, by intro w hSw; (try dsimp only at hSw); go_simp⟩) (by assumption) ?_
              refine takeH (i := 2) (d := 137) (v := .int .i64 (ib : Int)) rfl rfl (by kernel_rfl) (by kernel_rfl) (by kernel_rfl) (fun _ _ _ h => hQ _ _ _ _ _ h) (Or.inl ⟨by kernel_rfl, by intro w hSw; (try dsimp only at hSw); go_simp⟩) (by assumption) ?_
              refine takeH (i := 3) (d := 138) (v := .pointer (some ⟨gi, ib * 256, none⟩)) rfl rfl (by kernel_rfl) (by kernel_rfl) (by kernel_rfl) (fun _ _ _ h => hQ _ _ _ _ _ h) (Or.inl ⟨by kernel_rfl, by intro w hSw; (try dsimp only at hSw); go_simp⟩) (by assumption) ?_
              refine takeH (i := 4) (d := 139) (v := .agg (ptsV fb)) rfl rfl (by kernel_rfl) (by kernel_rfl) (by kernel_rfl) (fun _ _ _ h => hQ _ _ _ _ _ h) (Or.inl ⟨by kernel_rfl, fun w' hSw => loadIn_exec (x := .tmp 138) rfl (by simp [Act.eval, Act.put]) hSw⟩) (by assumption) ?_
              refine wpAnyH_ready (rs := [0]) (by kernel_rfl) (by simp) ?_
              refine readyVal (i := 0) (d := 135) rfl rfl (by kernel_rfl) (.agg (ptsV fa)) (load_exec (x := .tmp 11) rfl (by simp [Act.eval, Act.put]) H8.out.2.2.1) (by assumption) ?_ AllReadyH.nil
              refine wpAnyH_ready (rs := [5]) (by kernel_rfl) (by simp) ?_
              refine readyCall (i := 5) (d := 140) rfl rfl (by kernel_rfl) 12 #[.const (.int .i64 6), .tmp 135, .tmp 139] #[3, 33, 33] rfl HEm.out #[.int .i64 6, .agg (ptsV fa), .agg (ptsV fb)] (by simp [Act.eval, Act.put]) (HMd.out _) (fun u w' ⟨_, h⟩ => HSx.out _ _ _ (H8.out.below h)) ?_ AllReadyH.nil
              rintro u w9 ⟨rfl, hb9⟩ hHeld9
              have H9 : Hid (Rd wr w9 st (.slice a8 n8 c8) fa) := H8.out.below hb9
              have HO9 : Hid (Own w9 (wr.heap.size + 3) (.slice a8 n8 c8) x8) := HO8.out.below hb9 (Nat.le_refl _)
              refine wpAnyH_ready (rs := [6]) (by kernel_rfl) (by simp) ?_
              refine readySkip (i := 6) (w' := w9.setRow (wr.heap.size + 1 + 1) (ptsV fun q => fa q && !fb q)) rfl rfl (by kernel_rfl) (store_exec (x := .tmp 11) (y := .tmp 140) rfl (by simp [Act.eval, Act.put]) (by simp [Act.eval, Act.put]) H9.out.2.2.1) (HSx.out _ _ _ (H9.out.putT _)) ?_ AllReadyH.nil
              clear hb9 hHeld hHeld9
              refine wpAnyH_done (by kernel_rfl) ?_ _
              simp only [Act.put, List.setIfInBounds_toArray, List.set_cons_succ, List.set_cons_zero]
              go_wp2_with fail
              go_meet
              exact Rz.of HW.out H9.out HO9.out HC8.out HPt.out
          · have e2 : (sk == 2) = false := by simpa using hk2
            have e3 : (sk == 3) = false := by simpa using hk3
            have e4 : (sk == 4) = false := by simpa using hk4
            have e5 : (sk == 5) = false := by simpa using hk5
            have e6 : (sk == 6) = false := by simpa using hk6
            clear hk2 hk3 hk4 hk5 hk6
            go_wp2_with fail
            go_meet
            exact ⟨aa, na, ca, xa, fa, H3.out, HGa.out.1.below H3.out.2.2.2 (Nat.le_refl _), HGa.out.2.1, HGa.out.2.2⟩
end Go.Proofs.Ytogcpogoamoljaa
