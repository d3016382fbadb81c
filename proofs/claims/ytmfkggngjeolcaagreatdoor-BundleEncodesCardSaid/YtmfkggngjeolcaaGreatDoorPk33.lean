import Derived.Test.YtmfkggngjeolcaaGreatDoorPk32
import Derived.Test.YtmfkggngjeolcaaGreatDoorPk28
import Derived.Test.YtmfkggngjeolcaaGreatDoorPk19
/- Bundle, the document's own Encode: its tail (header, bytes). Written by parts/mkencsplit.py. Own work. -/
namespace Go.Proofs.YtmfkggngjeolcaaGreatDoor
open Go.RowKit Bn Ek
set_option linter.unusedVariables false
set_option linter.unusedSimpArgs false
set_option linter.unusedVariables false in
set_option maxRecDepth 100000 in
set_option maxHeartbeats 16000000 in
theorem kenc_tail {w W0 w5 : World} {I : Im} {nd : Int} {fb : List Nat} {a1 a3 a4 a5 a6 a7 a8 fv t0 t17 t18 t19 t20 t21 t22 t23 t24 t25 t26 t27 t28 t29 t30 t31 t32 t33 t34 t35 t36 t37 t38 t39 t40 t41 t42 t43 t44 t45 t46 t47 t48 t49 t50 t51 t52 t53 t54 t55 t56 t57 t58 t59 t60 t61 t62 t63 t64 t65 t66 t67 t68 t69 t70 t71 t72 t73 t74 t75 t76 t77 t78 t79 t80 t81 t82 t83 t84 t85 t86 t87 t88 t89 t90 t91 t92 t93 t94 t95 t96 t97 t98 t99 t100 t101 t102 t103 t104 t105 t106 t107 t108 t109 t110 t111 t112 t113 t114 t115 t116 t117 t118 t119 t120 t121 t122 t123 t124 t125 t126 t127 t128 t129 t130 t131 t132 t133 t134 t135 t136 t137 t138 t139 t140 t141 t142 t143 t144 t145 t146 t147 t148 t149 t150 t151 t152 t153 t154 t155 t156 t157 t158 t159 t160 t161 t162 t163 t164 t165 t166 t167 t168 t169 t170 t171 t172 t173 t174 t175 t176 t177 t178 t179 t180 t181 t182 t183 t184 t185 t186 t187 t188 t189 t190 t191 t192 t193 t194 t195 t196 t197 t198 t199 t200 t201 t202 t203 t204 t205 t206 t207 t208 : Value} {da ta va ra : Option Addr} {dc tc vc rc pb sa sb q : Nat} {qs : List (Value × Int)}
    (HNde : Hid (noD I = nd))
    (HFb : Hid (bD I 8 = fb))
    (HB0 : Hid (Below w.heap.size w W0))
    (HS0 : Hid (W0.heap.size = w.heap.size + 1))
    (HBox : Hid (∀ W, Below W0.heap.size W0 W → W.cell? ⟨w.heap.size, 0, none⟩ = some (.int .u64 (I.base : Int)) ∧ W.cell? ⟨w.heap.size, 1, none⟩ = some a1 ∧ W.cell? ⟨w.heap.size, 2, none⟩ = some (.slice da I.devs.length dc) ∧ W.cell? ⟨w.heap.size, 3, none⟩ = some a3 ∧ W.cell? ⟨w.heap.size, 4, none⟩ = some a4 ∧ W.cell? ⟨w.heap.size, 5, none⟩ = some a5 ∧ W.cell? ⟨w.heap.size, 6, none⟩ = some a6 ∧ W.cell? ⟨w.heap.size, 7, none⟩ = some a7 ∧ W.cell? ⟨w.heap.size, 8, none⟩ = some a8 ∧ W.cell? ⟨w.heap.size, 9, none⟩ = some (.int .i64 I.master) ∧ W.cell? ⟨w.heap.size, 10, none⟩ = some (.int .i64 I.start) ∧ W.cell? ⟨w.heap.size, 11, none⟩ = some (.slice ta I.tabs.length tc)))
    (HBs : Hid (I.base ≤ 18446744073709551615))
    (HA5 : Hid (OwnG 3 1 ntE w5 sa (.slice ra 8 rc) (atD I)))
    (HL5 : Hid (OwnG 3 1 ntE w5 sb (.slice va 8 vc) (lsD I)))
    (HP5 : Hid (Pts W0.heap.size I pb qs w5))
    (HB5 : Hid (Below W0.heap.size W0 w5))
    (HPl : Hid (∀ k, (pS I k).1.length ≤ 270000000))
    (HEn : Hid (endD I ≤ 3000000000))
    (hqd : Int.tdiv ((endD I : Nat) : Int) 4096 = (q : Int))
    (hql : q ≤ 3000000000)
    (hqw : IntKind.i64.wrap (q : Int) = (q : Int))
    (HQ : Hid (endD I / 4096 = q))
    : Code.wp Tryz.prog ((((Code.region 17 #[{ dst := some 109, op := Op.move (Operand.tmp 6), type := 3, pos := "ref.go:249", after := #[], guard := none }, { dst := some 110, op := Op.binOp BinOp.neq 3 (Operand.tmp 109) (Operand.const (Value.int IntKind.i64 0)) 3, type := 4, pos := "ref.go:249", after := #[{ on := 0, ground := Ground.data }], guard := none }] false).seq (Code.cond (Operand.tmp 110) ((Code.region 18 #[{ dst := some 111, op := Op.move (Operand.tmp 6), type := 3, pos := "ref.go:250", after := #[{ on := 1, ground := Ground.gcOnly Departure.lateStores }], guard := none }, { dst := some 2, op := Op.assign (Operand.const (Value.slice none 0 0)), type := 43, pos := "ref.go:250", after := #[{ on := 0, ground := Ground.textOnly Departure.lateStores }], guard := none }, { dst := some 3, op := Op.assign (Operand.tmp 111), type := 3, pos := "ref.go:250", after := #[{ on := 0, ground := Ground.data }, { on := 1, ground := Ground.chain }, { on := 0, ground := Ground.phase }, { on := 1, ground := Ground.phase }], guard := none }] false).seq Code.ret) Code.skip)).seq ((Code.region 19 #[{ dst := some 112, op := Op.buildSlice 43 8 #[(0, Operand.const (Value.int IntKind.u8 66)), (1, Operand.const (Value.int IntKind.u8 85)), (2, Operand.const (Value.int IntKind.u8 76)), (3, Operand.const (Value.int IntKind.u8 75)), (4, Operand.const (Value.int IntKind.u8 72)), (5, Operand.const (Value.int IntKind.u8 69)), (6, Operand.const (Value.int IntKind.u8 65)), (7, Operand.const (Value.int IntKind.u8 68))], type := 43, pos := "ref.go:252", after := #[], guard := none }, { dst := some 113, op := Op.convert 43 43 (Operand.tmp 112), type := 43, pos := "ref.go:252", after := #[{ on := 0, ground := Ground.data }], guard := none }, { dst := some 114, op := Op.build 101 #[(0, Operand.tmp 113)], type := 101, pos := "ref.go:252", after := #[{ on := 1, ground := Ground.data }], guard := none }, { dst := some 11, op := Op.alloc 101, type := 0, pos := "ref.go:252", after := #[], guard := none }, { dst := none, op := Op.store 101 (Operand.tmp 11) (Operand.tmp 114), type := 0, pos := "ref.go:252", after := #[{ on := 3, ground := Ground.data }, { on := 2, ground := Ground.data }, { on := 0, ground := Ground.phase }, { on := 1, ground := Ground.phase }, { on := 2, ground := Ground.phase }, { on := 3, ground := Ground.phase }], guard := none }] false).seq ((Code.region 20 #[{ dst := some 115, op := Op.call { callee := Callee.value (Operand.func 39), args := #[Operand.tmp 11, Operand.const (Value.int IntKind.i64 1), Operand.const (Value.int IntKind.i64 2)], argTypes := #[101, 3, 3] }, type := 0, pos := "ref.go:253", after := #[], guard := none }] false).seq ((Code.region 21 #[{ dst := some 116, op := Op.call { callee := Callee.value (Operand.func 39), args := #[Operand.tmp 11, Operand.const (Value.int IntKind.i64 8), Operand.const (Value.int IntKind.i64 2)], argTypes := #[101, 3, 3] }, type := 0, pos := "ref.go:254", after := #[], guard := none }] false).seq ((Code.region 22 #[{ dst := some 117, op := Op.move (Operand.tmp 10), type := 3, pos := "ref.go:255", after := #[], guard := none }, { dst := some 118, op := Op.binOp BinOp.quo 3 (Operand.tmp 117) (Operand.const (Value.int IntKind.i64 4096)) 3, type := 3, pos := "ref.go:255", after := #[{ on := 0, ground := Ground.data }], guard := none }, { dst := some 119, op := Op.call { callee := Callee.value (Operand.func 39), args := #[Operand.tmp 11, Operand.tmp 118, Operand.const (Value.int IntKind.i64 4)], argTypes := #[101, 3, 3] }, type := 0, pos := "ref.go:255", after := #[{ on := 1, ground := Ground.data }], guard := none }] false).seq ((Code.region 23 #[{ dst := some 120, op := Op.fieldAddr 33 (Operand.tmp 1) 0, type := 0, pos := "ref.go:256", after := #[], guard := none }, { dst := some 121, op := Op.load 22 (Operand.tmp 120), type := 22, pos := "ref.go:256", after := #[{ on := 0, ground := Ground.data }], guard := none }, { dst := some 122, op := Op.call { callee := Callee.value (Operand.func 40), args := #[Operand.tmp 11, Operand.tmp 121], argTypes := #[101, 22] }, type := 0, pos := "ref.go:256", after := #[{ on := 1, ground := Ground.data }], guard := none }] false).seq (((Code.region 24 #[{ dst := some 12, op := Op.assign (Operand.const (Value.int IntKind.i64 0)), type := 3, pos := "ref.go:257", after := #[], guard := none }] false).seq (Code.block 2 (((Code.region 25 #[{ dst := some 123, op := Op.move (Operand.tmp 12), type := 3, pos := "ref.go:257", after := #[], guard := none }, { dst := some 124, op := Op.binOp BinOp.lss 3 (Operand.tmp 123) (Operand.const (Value.int IntKind.i64 8)) 3, type := 4, pos := "ref.go:257", after := #[{ on := 0, ground := Ground.data }], guard := none }] false).seq (Code.cond (Operand.tmp 124) Code.skip (Code.exit 2))).seq ((Code.block 3 ((Code.region 27 #[{ dst := some 127, op := Op.move (Operand.tmp 12), type := 3, pos := "ref.go:258", after := #[], guard := none }, { dst := some 128, op := Op.binOp BinOp.add 3 (Operand.tmp 127) (Operand.const (Value.int IntKind.i64 1)) 3, type := 3, pos := "ref.go:258", after := #[{ on := 0, ground := Ground.data }], guard := none }, { dst := some 129, op := Op.call { callee := Callee.value (Operand.func 39), args := #[Operand.tmp 11, Operand.tmp 128, Operand.const (Value.int IntKind.i64 2)], argTypes := #[101, 3, 3] }, type := 0, pos := "ref.go:258", after := #[{ on := 1, ground := Ground.data }], guard := none }] false).seq ((Code.region 28 #[{ dst := some 130, op := Op.call { callee := Callee.value (Operand.func 41), args := #[Operand.tmp 11, Operand.const (Value.int IntKind.i64 2)], argTypes := #[101, 3] }, type := 0, pos := "ref.go:259", after := #[], guard := none }] false).seq ((Code.region 29 #[{ dst := some 131, op := Op.move (Operand.tmp 9), type := 82, pos := "ref.go:260", after := #[], guard := none }, { dst := some 132, op := Op.move (Operand.tmp 12), type := 3, pos := "ref.go:260", after := #[], guard := none }, { dst := some 133, op := Op.indexAddr 82 (Operand.tmp 131) (Operand.tmp 132), type := 0, pos := "ref.go:260", after := #[{ on := 0, ground := Ground.data }, { on := 1, ground := Ground.data }], guard := none }, { dst := some 134, op := Op.load 3 (Operand.tmp 133), type := 3, pos := "ref.go:260", after := #[{ on := 2, ground := Ground.data }], guard := none }, { dst := some 135, op := Op.call { callee := Callee.value (Operand.func 39), args := #[Operand.tmp 11, Operand.tmp 134, Operand.const (Value.int IntKind.i64 4)], argTypes := #[101, 3, 3] }, type := 0, pos := "ref.go:260", after := #[{ on := 3, ground := Ground.data }], guard := none }] false).seq ((Code.region 30 #[{ dst := some 136, op := Op.move (Operand.tmp 7), type := 82, pos := "ref.go:261", after := #[], guard := none }, { dst := some 137, op := Op.move (Operand.tmp 12), type := 3, pos := "ref.go:261", after := #[], guard := none }, { dst := some 138, op := Op.indexAddr 82 (Operand.tmp 136) (Operand.tmp 137), type := 0, pos := "ref.go:261", after := #[{ on := 0, ground := Ground.data }, { on := 1, ground := Ground.data }], guard := none }, { dst := some 139, op := Op.load 3 (Operand.tmp 138), type := 3, pos := "ref.go:261", after := #[{ on := 2, ground := Ground.data }], guard := none }, { dst := some 140, op := Op.call { callee := Callee.value (Operand.func 39), args := #[Operand.tmp 11, Operand.tmp 139, Operand.const (Value.int IntKind.i64 4)], argTypes := #[101, 3, 3] }, type := 0, pos := "ref.go:261", after := #[{ on := 3, ground := Ground.data }], guard := none }] false).seq (Code.region 31 #[{ dst := some 141, op := Op.fieldAddr 101 (Operand.tmp 11) 0, type := 0, pos := "ref.go:262", after := #[], guard := none }, { dst := some 142, op := Op.load 43 (Operand.tmp 141), type := 43, pos := "ref.go:262", after := #[{ on := 0, ground := Ground.data }], guard := none }, { dst := some 143, op := Op.move (Operand.tmp 5), type := 109, pos := "ref.go:262", after := #[], guard := none }, { dst := some 144, op := Op.move (Operand.tmp 12), type := 3, pos := "ref.go:262", after := #[], guard := none }, { dst := some 145, op := Op.indexAddr 109 (Operand.tmp 143) (Operand.tmp 144), type := 0, pos := "ref.go:262", after := #[{ on := 2, ground := Ground.data }, { on := 3, ground := Ground.data }], guard := none }, { dst := some 146, op := Op.fieldAddr 101 (Operand.tmp 145) 0, type := 0, pos := "ref.go:262", after := #[{ on := 4, ground := Ground.data }], guard := none }, { dst := some 147, op := Op.load 43 (Operand.tmp 146), type := 43, pos := "ref.go:262", after := #[{ on := 5, ground := Ground.data }], guard := none }, { dst := some 148, op := Op.call { callee := Callee.value (Operand.func 43), args := #[Operand.tmp 147], argTypes := #[43] }, type := 86, pos := "ref.go:262", after := #[{ on := 6, ground := Ground.data }], guard := none }, { dst := some 149, op := Op.convert 86 22 (Operand.tmp 148), type := 22, pos := "ref.go:262", after := #[{ on := 7, ground := Ground.data }], guard := none }, { dst := some 150, op := Op.call { callee := Callee.value (Operand.func 42), args := #[Operand.tmp 149, Operand.const (Value.int IntKind.i64 4)], argTypes := #[22, 3] }, type := 43, pos := "ref.go:262", after := #[{ on := 8, ground := Ground.data }, { on := 7, ground := Ground.chain }], guard := none }, { dst := some 151, op := Op.call { callee := Callee.builtin Builtin.append, args := #[Operand.tmp 142, Operand.tmp 150], argTypes := #[43, 43] }, type := 43, pos := "ref.go:262", after := #[{ on := 1, ground := Ground.data }, { on := 9, ground := Ground.data }, { on := 9, ground := Ground.chain }], guard := none }, { dst := some 152, op := Op.fieldAddr 101 (Operand.tmp 11) 0, type := 0, pos := "ref.go:262", after := #[{ on := 0, ground := Ground.phase }, { on := 1, ground := Ground.phase }, { on := 2, ground := Ground.phase }, { on := 3, ground := Ground.phase }, { on := 4, ground := Ground.phase }, { on := 5, ground := Ground.phase }, { on := 6, ground := Ground.phase }, { on := 7, ground := Ground.phase }, { on := 8, ground := Ground.phase }, { on := 9, ground := Ground.phase }, { on := 10, ground := Ground.phase }], guard := none }, { dst := none, op := Op.store 43 (Operand.tmp 152) (Operand.tmp 151), type := 0, pos := "ref.go:262", after := #[{ on := 11, ground := Ground.data }, { on := 10, ground := Ground.data }, { on := 10, ground := Ground.chain }, { on := 0, ground := Ground.phase }, { on := 1, ground := Ground.phase }, { on := 2, ground := Ground.phase }, { on := 3, ground := Ground.phase }, { on := 4, ground := Ground.phase }, { on := 5, ground := Ground.phase }, { on := 6, ground := Ground.phase }, { on := 7, ground := Ground.phase }, { on := 8, ground := Ground.phase }, { on := 9, ground := Ground.phase }, { on := 10, ground := Ground.phase }], guard := none }] true)))))).seq (Code.region 26 #[{ dst := some 125, op := Op.move (Operand.tmp 12), type := 3, pos := "ref.go:257", after := #[], guard := none }, { dst := some 126, op := Op.binOp BinOp.add 3 (Operand.tmp 125) (Operand.const (Value.int IntKind.i64 1)) 3, type := 3, pos := "ref.go:257", after := #[{ on := 0, ground := Ground.data }], guard := none }, { dst := some 12, op := Op.assign (Operand.tmp 126), type := 3, pos := "ref.go:257", after := #[{ on := 1, ground := Ground.data }, { on := 0, ground := Ground.phase }, { on := 1, ground := Ground.phase }], guard := none }] false))).loop)).seq ((Code.region 32 #[{ dst := some 153, op := Op.fieldAddr 101 (Operand.tmp 11) 0, type := 0, pos := "ref.go:264", after := #[], guard := none }, { dst := some 154, op := Op.load 43 (Operand.tmp 153), type := 43, pos := "ref.go:264", after := #[{ on := 0, ground := Ground.data }], guard := none }, { dst := some 155, op := Op.fieldAddr 101 (Operand.tmp 11) 0, type := 0, pos := "ref.go:264", after := #[], guard := none }, { dst := some 156, op := Op.load 43 (Operand.tmp 155), type := 43, pos := "ref.go:264", after := #[{ on := 2, ground := Ground.data }], guard := none }, { dst := some 157, op := Op.call { callee := Callee.value (Operand.func 43), args := #[Operand.tmp 156], argTypes := #[43] }, type := 86, pos := "ref.go:264", after := #[{ on := 3, ground := Ground.data }], guard := none }, { dst := some 158, op := Op.convert 86 22 (Operand.tmp 157), type := 22, pos := "ref.go:264", after := #[{ on := 4, ground := Ground.data }], guard := none }, { dst := some 159, op := Op.call { callee := Callee.value (Operand.func 42), args := #[Operand.tmp 158, Operand.const (Value.int IntKind.i64 4)], argTypes := #[22, 3] }, type := 43, pos := "ref.go:264", after := #[{ on := 5, ground := Ground.data }, { on := 4, ground := Ground.chain }], guard := none }, { dst := some 160, op := Op.call { callee := Callee.builtin Builtin.append, args := #[Operand.tmp 154, Operand.tmp 159], argTypes := #[43, 43] }, type := 43, pos := "ref.go:264", after := #[{ on := 1, ground := Ground.data }, { on := 6, ground := Ground.data }, { on := 6, ground := Ground.chain }], guard := none }, { dst := some 161, op := Op.fieldAddr 101 (Operand.tmp 11) 0, type := 0, pos := "ref.go:264", after := #[{ on := 0, ground := Ground.phase }, { on := 1, ground := Ground.phase }, { on := 2, ground := Ground.phase }, { on := 3, ground := Ground.phase }, { on := 4, ground := Ground.phase }, { on := 5, ground := Ground.phase }, { on := 6, ground := Ground.phase }, { on := 7, ground := Ground.phase }], guard := none }, { dst := none, op := Op.store 43 (Operand.tmp 161) (Operand.tmp 160), type := 0, pos := "ref.go:264", after := #[{ on := 8, ground := Ground.data }, { on := 7, ground := Ground.data }, { on := 7, ground := Ground.chain }, { on := 0, ground := Ground.phase }, { on := 1, ground := Ground.phase }, { on := 2, ground := Ground.phase }, { on := 3, ground := Ground.phase }, { on := 4, ground := Ground.phase }, { on := 5, ground := Ground.phase }, { on := 6, ground := Ground.phase }, { on := 7, ground := Ground.phase }], guard := none }] true).seq ((Code.region 33 #[{ dst := some 162, op := Op.call { callee := Callee.value (Operand.func 41), args := #[Operand.tmp 11, Operand.const (Value.int IntKind.i64 4)], argTypes := #[101, 3] }, type := 0, pos := "ref.go:265", after := #[], guard := none }] false).seq ((Code.region 34 #[{ dst := some 163, op := Op.move (Operand.tmp 10), type := 3, pos := "ref.go:266", after := #[], guard := none }, { dst := some 164, op := Op.makeSlice 43 (Operand.tmp 163) (Operand.tmp 163), type := 43, pos := "ref.go:266", after := #[{ on := 0, ground := Ground.data }, { on := 0, ground := Ground.data }], guard := none }, { dst := some 13, op := Op.assign (Operand.tmp 164), type := 43, pos := "ref.go:266", after := #[{ on := 1, ground := Ground.data }, { on := 0, ground := Ground.phase }, { on := 1, ground := Ground.phase }], guard := none }] false).seq (((Code.region 35 #[{ dst := some 14, op := Op.assign (Operand.const (Value.int IntKind.i64 0)), type := 3, pos := "ref.go:267", after := #[], guard := none }] false).seq (Code.block 4 (((Code.region 36 #[{ dst := some 165, op := Op.move (Operand.tmp 14), type := 3, pos := "ref.go:267", after := #[], guard := none }, { dst := some 166, op := Op.fieldAddr 101 (Operand.tmp 11) 0, type := 0, pos := "ref.go:267", after := #[], guard := none }, { dst := some 167, op := Op.load 43 (Operand.tmp 166), type := 43, pos := "ref.go:267", after := #[{ on := 1, ground := Ground.data }], guard := none }, { dst := some 168, op := Op.call { callee := Callee.builtin Builtin.len, args := #[Operand.tmp 167], argTypes := #[43] }, type := 3, pos := "ref.go:267", after := #[{ on := 2, ground := Ground.data }], guard := none }, { dst := some 169, op := Op.binOp BinOp.lss 3 (Operand.tmp 165) (Operand.tmp 168) 3, type := 4, pos := "ref.go:267", after := #[{ on := 0, ground := Ground.data }, { on := 3, ground := Ground.data }], guard := none }] false).seq (Code.cond (Operand.tmp 169) Code.skip (Code.exit 4))).seq ((Code.block 5 (Code.region 38 #[{ dst := some 172, op := Op.move (Operand.tmp 13), type := 43, pos := "ref.go:268", after := #[], guard := none }, { dst := some 173, op := Op.move (Operand.tmp 14), type := 3, pos := "ref.go:268", after := #[], guard := none }, { dst := some 174, op := Op.fieldAddr 101 (Operand.tmp 11) 0, type := 0, pos := "ref.go:268", after := #[], guard := none }, { dst := some 175, op := Op.load 43 (Operand.tmp 174), type := 43, pos := "ref.go:268", after := #[{ on := 2, ground := Ground.data }], guard := none }, { dst := some 176, op := Op.move (Operand.tmp 14), type := 3, pos := "ref.go:268", after := #[], guard := none }, { dst := some 177, op := Op.indexAddr 43 (Operand.tmp 175) (Operand.tmp 176), type := 0, pos := "ref.go:268", after := #[{ on := 3, ground := Ground.data }, { on := 4, ground := Ground.data }], guard := none }, { dst := some 178, op := Op.load 5 (Operand.tmp 177), type := 5, pos := "ref.go:268", after := #[{ on := 5, ground := Ground.data }], guard := none }, { dst := some 179, op := Op.indexAddr 43 (Operand.tmp 172) (Operand.tmp 173), type := 0, pos := "ref.go:268", after := #[{ on := 0, ground := Ground.data }, { on := 1, ground := Ground.data }, { on := 0, ground := Ground.phase }, { on := 1, ground := Ground.phase }, { on := 2, ground := Ground.phase }, { on := 3, ground := Ground.phase }, { on := 4, ground := Ground.phase }, { on := 5, ground := Ground.phase }, { on := 6, ground := Ground.phase }], guard := none }, { dst := none, op := Op.store 5 (Operand.tmp 179) (Operand.tmp 178), type := 0, pos := "ref.go:268", after := #[{ on := 7, ground := Ground.data }, { on := 6, ground := Ground.data }, { on := 0, ground := Ground.phase }, { on := 1, ground := Ground.phase }, { on := 2, ground := Ground.phase }, { on := 3, ground := Ground.phase }, { on := 4, ground := Ground.phase }, { on := 5, ground := Ground.phase }, { on := 6, ground := Ground.phase }], guard := none }] false)).seq (Code.region 37 #[{ dst := some 170, op := Op.move (Operand.tmp 14), type := 3, pos := "ref.go:267", after := #[], guard := none }, { dst := some 171, op := Op.binOp BinOp.add 3 (Operand.tmp 170) (Operand.const (Value.int IntKind.i64 1)) 3, type := 3, pos := "ref.go:267", after := #[{ on := 0, ground := Ground.data }], guard := none }, { dst := some 14, op := Op.assign (Operand.tmp 171), type := 3, pos := "ref.go:267", after := #[{ on := 1, ground := Ground.data }, { on := 0, ground := Ground.phase }, { on := 1, ground := Ground.phase }], guard := none }] false))).loop)).seq (((Code.region 39 #[{ dst := some 15, op := Op.assign (Operand.const (Value.int IntKind.i64 0)), type := 3, pos := "ref.go:270", after := #[], guard := none }] false).seq (Code.block 6 (((Code.region 40 #[{ dst := some 180, op := Op.move (Operand.tmp 15), type := 3, pos := "ref.go:270", after := #[], guard := none }, { dst := some 181, op := Op.binOp BinOp.lss 3 (Operand.tmp 180) (Operand.const (Value.int IntKind.i64 8)) 3, type := 4, pos := "ref.go:270", after := #[{ on := 0, ground := Ground.data }], guard := none }] false).seq (Code.cond (Operand.tmp 181) Code.skip (Code.exit 6))).seq ((Code.block 7 ((Code.region 42 #[{ dst := some 16, op := Op.assign (Operand.const (Value.int IntKind.i64 0)), type := 3, pos := "ref.go:271", after := #[], guard := none }] false).seq (Code.block 8 (((Code.region 43 #[{ dst := some 184, op := Op.move (Operand.tmp 16), type := 3, pos := "ref.go:271", after := #[], guard := none }, { dst := some 185, op := Op.move (Operand.tmp 7), type := 82, pos := "ref.go:271", after := #[], guard := none }, { dst := some 186, op := Op.move (Operand.tmp 15), type := 3, pos := "ref.go:271", after := #[], guard := none }, { dst := some 187, op := Op.indexAddr 82 (Operand.tmp 185) (Operand.tmp 186), type := 0, pos := "ref.go:271", after := #[{ on := 1, ground := Ground.data }, { on := 2, ground := Ground.data }], guard := none }, { dst := some 188, op := Op.load 3 (Operand.tmp 187), type := 3, pos := "ref.go:271", after := #[{ on := 3, ground := Ground.data }], guard := none }, { dst := some 189, op := Op.binOp BinOp.lss 3 (Operand.tmp 184) (Operand.tmp 188) 3, type := 4, pos := "ref.go:271", after := #[{ on := 0, ground := Ground.data }, { on := 4, ground := Ground.data }], guard := none }] false).seq (Code.cond (Operand.tmp 189) Code.skip (Code.exit 8))).seq ((Code.block 9 (Code.region 45 #[{ dst := some 192, op := Op.move (Operand.tmp 13), type := 43, pos := "ref.go:272", after := #[], guard := none }, { dst := some 193, op := Op.move (Operand.tmp 9), type := 82, pos := "ref.go:272", after := #[], guard := none }, { dst := some 194, op := Op.move (Operand.tmp 15), type := 3, pos := "ref.go:272", after := #[], guard := none }, { dst := some 195, op := Op.indexAddr 82 (Operand.tmp 193) (Operand.tmp 194), type := 0, pos := "ref.go:272", after := #[{ on := 1, ground := Ground.data }, { on := 2, ground := Ground.data }], guard := none }, { dst := some 196, op := Op.load 3 (Operand.tmp 195), type := 3, pos := "ref.go:272", after := #[{ on := 3, ground := Ground.data }], guard := none }, { dst := some 197, op := Op.move (Operand.tmp 16), type := 3, pos := "ref.go:272", after := #[], guard := none }, { dst := some 198, op := Op.binOp BinOp.add 3 (Operand.tmp 196) (Operand.tmp 197) 3, type := 3, pos := "ref.go:272", after := #[{ on := 4, ground := Ground.data }, { on := 5, ground := Ground.data }], guard := none }, { dst := some 199, op := Op.move (Operand.tmp 5), type := 109, pos := "ref.go:272", after := #[], guard := none }, { dst := some 200, op := Op.move (Operand.tmp 15), type := 3, pos := "ref.go:272", after := #[], guard := none }, { dst := some 201, op := Op.indexAddr 109 (Operand.tmp 199) (Operand.tmp 200), type := 0, pos := "ref.go:272", after := #[{ on := 7, ground := Ground.data }, { on := 8, ground := Ground.data }], guard := none }, { dst := some 202, op := Op.fieldAddr 101 (Operand.tmp 201) 0, type := 0, pos := "ref.go:272", after := #[{ on := 9, ground := Ground.data }], guard := none }, { dst := some 203, op := Op.load 43 (Operand.tmp 202), type := 43, pos := "ref.go:272", after := #[{ on := 10, ground := Ground.data }], guard := none }, { dst := some 204, op := Op.move (Operand.tmp 16), type := 3, pos := "ref.go:272", after := #[], guard := none }, { dst := some 205, op := Op.indexAddr 43 (Operand.tmp 203) (Operand.tmp 204), type := 0, pos := "ref.go:272", after := #[{ on := 11, ground := Ground.data }, { on := 12, ground := Ground.data }], guard := none }, { dst := some 206, op := Op.load 5 (Operand.tmp 205), type := 5, pos := "ref.go:272", after := #[{ on := 13, ground := Ground.data }], guard := none }, { dst := some 207, op := Op.indexAddr 43 (Operand.tmp 192) (Operand.tmp 198), type := 0, pos := "ref.go:272", after := #[{ on := 0, ground := Ground.data }, { on := 6, ground := Ground.data }, { on := 0, ground := Ground.phase }, { on := 1, ground := Ground.phase }, { on := 2, ground := Ground.phase }, { on := 3, ground := Ground.phase }, { on := 4, ground := Ground.phase }, { on := 5, ground := Ground.phase }, { on := 6, ground := Ground.phase }, { on := 7, ground := Ground.phase }, { on := 8, ground := Ground.phase }, { on := 9, ground := Ground.phase }, { on := 10, ground := Ground.phase }, { on := 11, ground := Ground.phase }, { on := 12, ground := Ground.phase }, { on := 13, ground := Ground.phase }, { on := 14, ground := Ground.phase }], guard := none }, { dst := none, op := Op.store 5 (Operand.tmp 207) (Operand.tmp 206), type := 0, pos := "ref.go:272", after := #[{ on := 15, ground := Ground.data }, { on := 14, ground := Ground.data }, { on := 0, ground := Ground.phase }, { on := 1, ground := Ground.phase }, { on := 2, ground := Ground.phase }, { on := 3, ground := Ground.phase }, { on := 4, ground := Ground.phase }, { on := 5, ground := Ground.phase }, { on := 6, ground := Ground.phase }, { on := 7, ground := Ground.phase }, { on := 8, ground := Ground.phase }, { on := 9, ground := Ground.phase }, { on := 10, ground := Ground.phase }, { on := 11, ground := Ground.phase }, { on := 12, ground := Ground.phase }, { on := 13, ground := Ground.phase }, { on := 14, ground := Ground.phase }], guard := none }] true)).seq (Code.region 44 #[{ dst := some 190, op := Op.move (Operand.tmp 16), type := 3, pos := "ref.go:271", after := #[], guard := none }, { dst := some 191, op := Op.binOp BinOp.add 3 (Operand.tmp 190) (Operand.const (Value.int IntKind.i64 1)) 3, type := 3, pos := "ref.go:271", after := #[{ on := 0, ground := Ground.data }], guard := none }, { dst := some 16, op := Op.assign (Operand.tmp 191), type := 3, pos := "ref.go:271", after := #[{ on := 1, ground := Ground.data }, { on := 0, ground := Ground.phase }, { on := 1, ground := Ground.phase }], guard := none }] false))).loop))).seq (Code.region 41 #[{ dst := some 182, op := Op.move (Operand.tmp 15), type := 3, pos := "ref.go:270", after := #[], guard := none }, { dst := some 183, op := Op.binOp BinOp.add 3 (Operand.tmp 182) (Operand.const (Value.int IntKind.i64 1)) 3, type := 3, pos := "ref.go:270", after := #[{ on := 0, ground := Ground.data }], guard := none }, { dst := some 15, op := Op.assign (Operand.tmp 183), type := 3, pos := "ref.go:270", after := #[{ on := 1, ground := Ground.data }, { on := 0, ground := Ground.phase }, { on := 1, ground := Ground.phase }], guard := none }] false))).loop)).seq ((Code.region 46 #[{ dst := some 208, op := Op.move (Operand.tmp 13), type := 43, pos := "ref.go:275", after := #[], guard := none }, { dst := some 2, op := Op.assign (Operand.tmp 208), type := 43, pos := "ref.go:275", after := #[{ on := 0, ground := Ground.data }, { on := 0, ground := Ground.phase }], guard := none }, { dst := some 3, op := Op.assign (Operand.const (Value.int IntKind.i64 0)), type := 3, pos := "ref.go:275", after := #[{ on := 1, ground := Ground.chain }, { on := 0, ground := Ground.phase }, { on := 1, ground := Ground.phase }], guard := none }] false).seq Code.ret)))))))))))))) (bodyPost Tryz.prog Tryz.f16 fun e w' => ∃ v, e = .returned (.tuple #[v, .int .i64 nd]) ∧ (nd ≠ 0 → v = .slice none 0 0) ∧ (nd = 0 → Own w' w.heap.size v fb) ∧ Below w.heap.size w w') { tmps := #[t0, .pointer (some ⟨w.heap.size, 0, none⟩), .slice none 0 0, .int .i64 0, fv, .slice (some ⟨pb, 0, none⟩) 8 8, .int .i64 nd, .slice va 8 vc, .int .i64 8, .slice ra 8 rc, .int .i64 (endD I : Int), undef, undef, undef, undef, undef, undef, t17, t18, t19, t20, t21, t22, t23, t24, t25, t26, t27, t28, t29, t30, t31, t32, t33, t34, t35, t36, t37, t38, t39, t40, t41, t42, t43, t44, t45, t46, t47, t48, t49, t50, t51, t52, t53, t54, t55, t56, t57, t58, t59, t60, t61, t62, t63, t64, t65, t66, t67, t68, t69, t70, t71, t72, t73, t74, t75, t76, t77, t78, t79, t80, t81, t82, t83, t84, t85, t86, t87, t88, t89, t90, t91, t92, t93, t94, t95, t96, t97, t98, t99, t100, t101, t102, t103, t104, t105, t106, t107, t108, t109, t110, t111, t112, t113, t114, t115, t116, t117, t118, t119, t120, t121, t122, t123, t124, t125, t126, t127, t128, t129, t130, t131, t132, t133, t134, t135, t136, t137, t138, t139, t140, t141, t142, t143, t144, t145, t146, t147, t148, t149, t150, t151, t152, t153, t154, t155, t156, t157, t158, t159, t160, t161, t162, t163, t164, t165, t166, t167, t168, t169, t170, t171, t172, t173, t174, t175, t176, t177, t178, t179, t180, t181, t182, t183, t184, t185, t186, t187, t188, t189, t190, t191, t192, t193, t194, t195, t196, t197, t198, t199, t200, t201, t202, t203, t204, t205, t206, t207, t208], defers := [] } w5 := by
  let Q' : Exit → Act → World → Prop := bodyPost Tryz.prog Tryz.f16 fun e w' => ∃ v, e = .returned (.tuple #[v, .int .i64 nd]) ∧ (nd ≠ 0 → v = .slice none 0 0) ∧ (nd = 0 → Own w' w.heap.size v fb) ∧ Below w.heap.size w w'
  show Code.wp Tryz.prog _ Q' _ _
  obtain ⟨c0, c1, c2, c3, c4, c5, c6, c7, c8, c9, c10, c11⟩ := HBox.out _ HB5.out
  by_cases hn0 : nd = 0
  · subst hn0
    have HSt : Hid (noD I = 0) := HNde
    have hal : (atD I).length = 8 := by rw [show atD I = (plc 0 160 (lsD I)).1 from rfl, plc_len, lsD_len]
    obtain ⟨ab, rfl, hat⟩ := int_row HA5.out hal.symm (by decide)
    obtain ⟨lb, rfl, hls⟩ := int_row HL5.out (lsD_len I).symm (by decide)
    have HAt : Hid (∀ W, Below w5.heap.size w5 W → ∀ j, j < 8 → W.cell? ⟨ab, j, none⟩ = some (.int .i64 (((atD I).getD j 0 : Nat) : Int))) := fun W hW j hj => hat W hW j (by rw [hal]; exact hj)
    have HLs : Hid (∀ W, Below w5.heap.size w5 W → ∀ j, j < 8 → W.cell? ⟨lb, j, none⟩ = some (.int .i64 (((lsD I).getD j 0 : Nat) : Int))) := fun W hW j hj => hls W hW j (by rw [lsD_len]; exact hj)
    have HAb : Hid (∀ j, j < 8 → (atD I).getD j 0 + (lsD I).getD j 0 ≤ endD I) := fun j hj => at_le (lsD I) 0 160 j (by rw [lsD_len]; exact hj)
    have HLg : Hid (∀ j, j < 8 → (lsD I).getD j 0 = (pS I j).1.length) := fun j hj => by
      rw [List.getD_eq_getElem?_getD, List.getElem?_eq_getElem (by rw [lsD_len]; exact hj), lsD_get]
      rfl
    have HE16 : Hid (160 ≤ endD I) := end_ge (lsD I) (by rw [lsD_len]; decide)
    clear hat hls hal HA5 HL5
    have hcv := convert_lit w5 magB #[.int .u8 66, .int .u8 85, .int .u8 76, .int .u8 75, .int .u8 72, .int .u8 69, .int .u8 65, .int .u8 68] rfl
    have hsl := sl_lit w5 magB (magB.length, magB.length + 1) (by decide) (by decide)
    simp only [magB, bvs, List.map_cons, List.map_nil, List.length_cons, List.length_nil] at hcv hsl
    have HK6 : Hid (((w5.alloc (.cells #[.int .u8 66, .int .u8 85, .int .u8 76, .int .u8 75, .int .u8 72, .int .u8 69, .int .u8 65, .int .u8 68] 5 (8, 9))).alloc (.cells #[.slice (some ⟨w5.heap.size, 0, none⟩) 8 8, .int .i64 0] 101)).heap[w5.heap.size + 1]? = some (ldC (.slice (some ⟨w5.heap.size, 0, none⟩) 8 8) 0)) := Lib.hid (by
      have h9 := heap_alloc_new (w5.alloc (.cells #[.int .u8 66, .int .u8 85, .int .u8 76, .int .u8 75, .int .u8 72, .int .u8 69, .int .u8 65, .int .u8 68] 5 (8, 9))) (.cells #[.slice (some ⟨w5.heap.size, 0, none⟩) 8 8, .int .i64 0] 101)
      rwa [show (w5.alloc (.cells #[.int .u8 66, .int .u8 85, .int .u8 76, .int .u8 75, .int .u8 72, .int .u8 69, .int .u8 65, .int .u8 68] 5 (8, 9))).heap.size = w5.heap.size + 1 by simp] at h9)
    have HS6 : Hid (Sl ((w5.alloc (.cells #[.int .u8 66, .int .u8 85, .int .u8 76, .int .u8 75, .int .u8 72, .int .u8 69, .int .u8 65, .int .u8 68] 5 (8, 9))).alloc (.cells #[.slice (some ⟨w5.heap.size, 0, none⟩) 8 8, .int .i64 0] 101)) (.slice (some ⟨w5.heap.size, 0, none⟩) 8 8) magB) := Lib.hid (Sl.keeps (S := fun _ => False) hsl (Keeps.of_below ((Below.refl _ _).alloc (Nat.le_refl _) _)) (fun _ _ => id))
    have HB6 : Hid (Below w5.heap.size w5 ((w5.alloc (.cells #[.int .u8 66, .int .u8 85, .int .u8 76, .int .u8 75, .int .u8 72, .int .u8 69, .int .u8 65, .int .u8 68] 5 (8, 9))).alloc (.cells #[.slice (some ⟨w5.heap.size, 0, none⟩) 8 8, .int .i64 0] 101))) := Lib.hid (((Below.refl _ _).alloc (Nat.le_refl _) _).alloc (by simp) _)
    clear hsl c1 c2 c3 c4 c5 c6 c7 c8 c9 c10 c11
    go_upto_region 20 with fail
    generalize ((w5.alloc (.cells #[.int .u8 66, .int .u8 85, .int .u8 76, .int .u8 75, .int .u8 72, .int .u8 69, .int .u8 65, .int .u8 68] 5 (8, 9))).alloc (.cells #[.slice (some ⟨w5.heap.size, 0, none⟩) 8 8, .int .i64 0] 101)) = W6 at HK6 HS6 HB6 ⊢
    have HW : Hid (∀ W t, Ld w5.heap.size (w5.heap.size + 1) W6 t W → Below w5.heap.size w5 W) := fun W t hW => HB6.out.trans hW.bl
    have HNF := Lib.hid (knumF HK6.out HS6.out (Nat.le_succ _))
    clear hcv c0 HK6 HS6
    go_wp2_with fail
    refine HNF.out.mono ?_
    rintro e w7 ⟨rfl, h7⟩
    have H7 := Lib.hid h7
    clear h7 HNF
    go_wp2_with fail
    refine (knum2X H7.out (k := 8) ⟨by decide, by decide⟩ (by rw [num_len]; decide)).mono ?_
    rintro e w8 ⟨rfl, h8⟩
    have H8 := Lib.hid h8
    clear h8 H7
    go_wp2_with fail
    refine (knum4X H8.out (k := (q : Int)) ⟨by omega, by omega⟩ (by rw [num_len, num_len]; decide)).mono ?_
    rintro e w9 ⟨rfl, h9⟩
    obtain ⟨c0, _⟩ := HBox.out w9 (HB5.out.trans ((HW.out _ _ h9).mono HB5.out.size))
    have H9 := Lib.hid h9
    clear h9 H8
    go_wp2_with fail
    refine (klongX H9.out (m := I.base) HBs.out (by rw [num_len, num_len, num_len]; exact (by decide : 8 + 2 + 2 + 4 ≤ 549755813888))).mono ?_
    rintro e w10 ⟨rfl, h10⟩
    have H10 : Hid (Ld w5.heap.size (w5.heap.size + 1) W6 (hN I 0) w10) := Lib.hid (by rw [hN, HQ.out]; exact h10)
    clear h10 H9 c0
    go_wp2_with fail
    go_loopw [12] (fun jv wr => ∃ j : Nat, j ≤ 8 ∧ jv = .int .i64 (j : Int) ∧ Hid (Ld w5.heap.size (w5.heap.size + 1) W6 (hN I j) wr)) (fun jv _ => 8 - (intOf jv).toNat)
    case atStart => exact ⟨0, by omega, rfl, H10⟩
    case round =>
      clear H10
      obtain ⟨j, hj, rfl, HJ⟩ := hrel
      by_cases hj8 : j < 8
      · have jj : (j : Int) < 8 := by omega
        have hw1 : IntKind.i64.wrap ((j : Int) + 1) = ((j + 1 : Nat) : Int) := by rw [IntKind.wrap_i64]; omega
        have HHn : Hid (hN I (j + 1) = bytesS (Pl.le 4 (Pl.crc (pS I j).1)) (numD 4 (((lsD I).getD j 0 : Nat) : Int) (numD 4 (((atD I).getD j 0 : Nat) : Int) (zerosS 2 (numD 2 ((j + 1 : Nat) : Int) (hN I j)))))) := (rfl : _ = _)
        have hlen := hN_len I j
        have hab := HAb.out j hj8
        have hen := HEn.out
        have HAtj : Hid (∀ W t, Ld w5.heap.size (w5.heap.size + 1) W6 t W → W.cell? ⟨ab, j, none⟩ = some (.int .i64 (((atD I).getD j 0 : Nat) : Int))) := fun W t hW => HAt.out W (HW.out W t hW) j hj8
        have HLsj : Hid (∀ W t, Ld w5.heap.size (w5.heap.size + 1) W6 t W → W.cell? ⟨lb, j, none⟩ = some (.int .i64 (((lsD I).getD j 0 : Nat) : Int))) := fun W t hW => HLs.out W (HW.out W t hW) j hj8
        have HPj : Hid (∀ W t, Ld w5.heap.size (w5.heap.size + 1) W6 t W → W.cell? ⟨pb, j * 2, none⟩ = some (qv qs j) ∧ Own W W0.heap.size (qv qs j) (pS I j).1) := fun W t hW => by
          obtain ⟨h1, _, h3, _⟩ := (HP5.out.below (HW.out W t hW)).part hj8
          exact ⟨h1, h3⟩
        have HSm : Hid (∀ z ∈ (pS I j).1, z < 256) := (HP5.out.sm j hj8).1
        obtain ⟨s0, hs0⟩ : ∃ s0, hN I j = s0 := ⟨_, rfl⟩
        have HL0 : Hid (s0.1.length ≤ 200) := show _ ≤ _ by rw [← hs0, hlen]; omega
        rw [hs0] at HJ HHn
        clear hs0 hlen
        generalize (atD I).getD j 0 = at_ at *
        generalize (lsD I).getD j 0 = ln at *
        generalize (pS I j).1 = ps at *
        generalize qv qs j = qj at *
        obtain ⟨wA, hwA⟩ : ∃ x, x = wr := ⟨_, rfl⟩
        subst hwA
        go_wp2_with fail
        refine (knum2X HJ.out (k := ((j + 1 : Nat) : Int)) ⟨by omega, by omega⟩ (by have := HL0.out; omega)).mono ?_
        rintro e w11 ⟨rfl, h11⟩
        have H11 := Lib.hid h11
        clear h11 HJ
        go_wp2_with fail
        refine (kzeros2X H11.out (by rw [num_len]; have := HL0.out; omega)).mono ?_
        rintro e w12 ⟨rfl, h12⟩
        have d1 := HAtj.out _ _ h12
        have H12 := Lib.hid h12
        clear h12 H11
        go_wp2_with fail
        refine (knum4X H12.out (k := (at_ : Int)) ⟨by omega, by omega⟩ (by rw [zeros_len, num_len]; have := HL0.out; omega)).mono ?_
        rintro e w13 ⟨rfl, h13⟩
        clear d1
        have d1 := HLsj.out _ _ h13
        have H13 := Lib.hid h13
        clear h13 H12
        go_wp2_with fail
        refine (knum4X H13.out (k := (ln : Int)) ⟨by omega, by omega⟩ (by rw [num_len, zeros_len, num_len]; have := HL0.out; omega)).mono ?_
        rintro e w14 ⟨rfl, h14⟩
        clear d1
        obtain ⟨s1, hs1⟩ : ∃ s1, numD 4 (ln : Int) (numD 4 (at_ : Int) (zerosS 2 (numD 2 ((j + 1 : Nat) : Int) s0))) = s1 := ⟨_, rfl⟩
        have HL1 : Hid (s1.1.length ≤ 300) := show _ ≤ _ by rw [← hs1, num_len, num_len, zeros_len, num_len]; have := HL0.out; omega
        rw [hs1] at h14 HHn
        clear hs1
        obtain ⟨v14, l14⟩ := h14
        have c0 := l14.cell0
        have f0 := l14.free 0
        have hd14 : Ld w5.heap.size (w5.heap.size + 1) W6 s1 w14.drew := ⟨v14, l14.below ⟨rfl, rfl, rfl, Nat.le_refl _, fun _ _ => rfl⟩⟩
        obtain ⟨p0, po⟩ := HPj.out w14 _ ⟨v14, l14⟩
        obtain ⟨p0d, pod⟩ := HPj.out w14.drew _ hd14
        have HV : Hid (Lv w5.heap.size (w5.heap.size + 1) W6 v14 s1 w14.drew) := l14.below ⟨rfl, rfl, rfl, Nat.le_refl _, fun _ _ => rfl⟩
        have HCr := Lib.hid (refcrc_any (pod.sl HSm.out))
        have HEc : Hid (Enters Tryz.prog 43) := enters_of Tryz.func43 (by kernel_rfl) rfl
        have HEb : Hid (Enters Tryz.prog 42) := enters_of Tryz.func42 (by kernel_rfl) rfl
        obtain ⟨cr, hcr⟩ : ∃ cr, Pl.crc ps = cr := ⟨_, rfl⟩
        have hcl : cr < 4294967296 := by rw [← hcr]; exact Nat.lt_succ_of_le (crc_lt HSm.out)
        rw [hcr] at HCr HHn
        clear hcr l14 hd14 po pod p0d
        obtain ⟨xa, xc, hxq⟩ : ∃ a c, qj = .slice a ps.length c := own_slice (HPj.out w14.drew _ ⟨v14, HV.out⟩).2
        subst hxq
        have hcw : IntKind.u64.wrap (cr : Int) = (cr : Int) := by rw [IntKind.wrap_u64]; omega
        have HBy : Hid (∀ W, Calls Tryz.prog 42 #[.int .u64 (cr : Int), .int .i64 4] W fun e w' => ∃ v, e = .returned v ∧ (Own w' W.heap.size v (Pl.le 4 cr) ∧ Below W.heap.size W w')) := fun W => rBytes_any (s := 4) (by decide) (by omega) W
        have HCs : Hid (Calls Tryz.prog 43 #[.slice xa ps.length xc] w14.drew fun e w' => ∃ v, e = .returned v ∧ (v = .int .u32 (cr : Int) ∧ w' = w14.drew)) := HCr.out.mono (fun e w' h => ⟨_, h.1, rfl, h.2⟩)
        have HLe : Hid ((Pl.le 4 cr).length = 4) := Pl.le_length 4 cr
        clear HCr
        go_upto_region 31 with fail
        go_region_law (first
          | (refine step_callQ rfl 43 #[.tmp 147] #[43] rfl HEc.out #[.slice xa ps.length xc] (by first | (simp [Act.eval]; done) | simp [Act.eval, Act.put]) HCs.out ?_; intro u w15 hR; obtain ⟨hu, hw15⟩ := hR; subst hu hw15)
          | (refine step_callQ rfl 42 #[.tmp 149, .const (.int .i64 4)] #[22, 3] rfl HEb.out #[.int .u64 (cr : Int), .int .i64 4] (by first | (simp [Act.eval]; done) | simp [Act.eval, Act.put]) (HBy.out _) ?_; intro u w16 hR; have HW1 : Hid (Lv w5.heap.size (w5.heap.size + 1) W6 v14 s1 w16) := HV.out.below hR.2; have c01 := HW1.out.cell0; have HSl : Hid (Sl w16 u (Pl.le 4 cr)) := hR.1.sl (Pl.le_small _ _); clear hR)
          | (refine step_append_sl (v := v14) rfl (.tmp 142) (.tmp 150) rfl rfl HW1.out.own rfl HSl.out (by rw [HLe.out]; have := HL1.out; omega) HW1.out.le ?_; intro v2 w2 h2 g2 l2; have hc2 := lcell0_of (HW1.out.after g2); have ht2 := lfree_of (HW1.out.after g2); obtain ⟨ao, n2, c, hv2⟩ : ∃ a m c, v2 = .slice a m c := (by obtain ⟨a, c, e⟩ := own_slice h2; exact ⟨a, _, c, e⟩); subst hv2; have HF := Lib.hid (HW1.out.stored h2 g2 l2 (Pl.le_small _ _)); clear h2 g2 l2))
        all_goals
          go_wp2_with fail
          go_roundw
          case rel => exact ⟨j + 1, by omega, rfl, by rw [HHn.out]; exact HF⟩
          case measure => simp [intOf]; omega
      · obtain rfl : j = 8 := by omega
        have HHd : Hid (hdD I = zerosS 4 (bytesS (Pl.le 4 (Pl.crc (hN I 8).1)) (hN I 8))) := (rfl : _ = _)
        have hlen := hN_len I 8
        obtain ⟨s1, hs1⟩ : ∃ s1, hN I 8 = s1 := ⟨_, rfl⟩
        have HL1 : Hid (s1.1.length ≤ 300) := show _ ≤ _ by rw [← hs1, hlen]; decide
        rw [hs1] at HJ HHd
        clear hs1 hlen
        obtain ⟨v14, l14⟩ := HJ.out
        have HV : Hid (Lv w5.heap.size (w5.heap.size + 1) W6 v14 s1 wr.drew) := l14.below ⟨rfl, rfl, rfl, Nat.le_refl _, fun _ _ => rfl⟩
        have HCr := Lib.hid (refcrc_any (HV.out.own.sl l14.sm))
        have HEc : Hid (Enters Tryz.prog 43) := enters_of Tryz.func43 (by kernel_rfl) rfl
        have HEb : Hid (Enters Tryz.prog 42) := enters_of Tryz.func42 (by kernel_rfl) rfl
        obtain ⟨cr, hcr⟩ : ∃ cr, Pl.crc s1.1 = cr := ⟨_, rfl⟩
        have hcl : cr < 4294967296 := by rw [← hcr]; exact Nat.lt_succ_of_le (crc_lt l14.sm)
        rw [hcr] at HCr HHd
        clear hcr
        obtain ⟨xa, xc, hxq⟩ : ∃ a c, v14 = .slice a s1.1.length c := own_slice l14.own
        subst hxq
        have c0 := l14.cell0
        have f0 := l14.free 0
        clear l14 HJ
        have hcw : IntKind.u64.wrap (cr : Int) = (cr : Int) := by rw [IntKind.wrap_u64]; omega
        have HBy : Hid (∀ W, Calls Tryz.prog 42 #[.int .u64 (cr : Int), .int .i64 4] W fun e w' => ∃ v, e = .returned v ∧ (Own w' W.heap.size v (Pl.le 4 cr) ∧ Below W.heap.size W w')) := fun W => rBytes_any (s := 4) (by decide) (by omega) W
        have HCs : Hid (Calls Tryz.prog 43 #[.slice xa s1.1.length xc] wr.drew fun e w' => ∃ v, e = .returned v ∧ (v = .int .u32 (cr : Int) ∧ w' = wr.drew)) := HCr.out.mono (fun e w' h => ⟨_, h.1, rfl, h.2⟩)
        have HLe : Hid ((Pl.le 4 cr).length = 4) := Pl.le_length 4 cr
        clear HCr
        go_upto_region 32 with fail
        go_cut [] (fun wx => Hid (Ld w5.heap.size (w5.heap.size + 1) W6 (bytesS (Pl.le 4 cr) s1) wx))
        case first =>
          go_region_law (first
            | (refine step_callQ rfl 43 #[.tmp 156] #[43] rfl HEc.out #[.slice xa s1.1.length xc] (by first | (simp [Act.eval]; done) | simp [Act.eval, Act.put]) HCs.out ?_; intro u w15 hR; obtain ⟨hu, hw15⟩ := hR; subst hu hw15)
            | (refine step_callQ rfl 42 #[.tmp 158, .const (.int .i64 4)] #[22, 3] rfl HEb.out #[.int .u64 (cr : Int), .int .i64 4] (by first | (simp [Act.eval]; done) | simp [Act.eval, Act.put]) (HBy.out _) ?_; intro u w16 hR; have HW1 : Hid (Lv w5.heap.size (w5.heap.size + 1) W6 (.slice xa s1.1.length xc) s1 w16) := HV.out.below hR.2; have c01 := HW1.out.cell0; have HSl : Hid (Sl w16 u (Pl.le 4 cr)) := hR.1.sl (Pl.le_small _ _); clear hR)
            | (refine step_append_sl (v := (.slice xa s1.1.length xc)) rfl (.tmp 154) (.tmp 159) rfl rfl HW1.out.own rfl HSl.out (by rw [HLe.out]; have := HL1.out; omega) HW1.out.le ?_; intro v2 w2 h2 g2 l2; have hc2 := lcell0_of (HW1.out.after g2); have ht2 := lfree_of (HW1.out.after g2); obtain ⟨ao, n2, c, hv2⟩ : ∃ a m c, v2 = .slice a m c := (by obtain ⟨a, c, e⟩ := own_slice h2; exact ⟨a, _, c, e⟩); subst hv2; have HF := Lib.hid (HW1.out.stored h2 g2 l2 (Pl.le_small _ _)); clear h2 g2 l2))
          all_goals
            go_wp2_with fail
            go_meet
            exact (by first | exact HF | (rw [HHn.out]; exact HF))
        case rest =>
          have HJ1 := hcut
          clear hcut HV HCs HBy HEc HEb HLe c0 f0
          go_wp2_with fail
          refine (kzeros4X HJ1.out (by rw [bytes_len, Pl.le_length]; have := HL1.out; omega)).mono ?_
          rintro e w17 ⟨rfl, h17⟩
          rw [← HHd.out] at h17
          have H17 := Lib.hid h17
          clear h17 HJ1 HHd HL1
          have hB17 := HW.out _ _ H17.out
          have HB17 := Lib.hid hB17
          have HF17 : Hid (Below w.heap.size w w17) := HB0.out.trans ((HB5.out.trans (hB17.mono HB5.out.size)).mono (by rw [HS0.out]; omega))
          have HAt17 := Lib.hid (fun j (hj : j < 8) => HAt.out _ hB17 j hj)
          have HLs17 := Lib.hid (fun j (hj : j < 8) => HLs.out _ hB17 j hj)
          have HP17 := Lib.hid (HP5.out.below hB17)
          obtain ⟨vh, lh⟩ := H17.out
          obtain ⟨gh, ch, ehh, _, hgl, _, _⟩ := lh.own.form (by rw [hd_len]; decide)
          subst ehh
          have hdl := hd_len I
          have HHs := Lib.hid lh.sm
          have HHo : Hid (Own w17 w5.heap.size (.slice (some ⟨gh, 0, none⟩) (hdD I).1.length ch) (hdD I).1) := lh.own
          have hkc := lh.cell0
          have hkl := lh.lt
          rw [hdl] at HHo hkc
          have HKc := Lib.hid hkc
          have HHl := Lib.hid hdl
          clear lh H17 hB17 hkc hdl HAt HLs HP5 HB6 HW
          have hE16 := HE16.out
          have hEn := HEn.out
          generalize hEE : endD I = EN at *
          go_upto_region 35 with (refine wpList_makeP _ rfl (.tmp 163) (.tmp 163) rfl .i64 .i64 _ _ EN EN rfl rfl rfl rfl (Nat.le_refl _) (by omega) ?_; intro w18 HRow HGr)
          have HO18 : Hid (Own w18 w17.heap.size (.slice (some ⟨w17.heap.size, 0, none⟩) EN EN) (layB (List.replicate EN 0) 0 ((hdD I).1.take 0))) := Lib.hid (by
            rw [layB_zero]
            exact own_of_row HRow.out (Nat.le_refl _) (by simp) (by simp) (Nat.le_refl _) (by unfold maxLen; omega) (by rw [List.take_of_length_le (by simp)]))
          have HB18 : Hid (Below w17.heap.size w17 w18) := (Below.refl _ _).grown HGr.out (Nat.le_refl _) (fun k e => by cases e)
          have HRd : Hid (∀ W, Keeps (fun k => k = w17.heap.size) w18 W → W.cell? ⟨w5.heap.size + 1, 0, none⟩ = some (.slice (some ⟨gh, 0, none⟩) 160 ch) ∧ ∀ x, x < 160 → W.cell? ⟨gh, x, none⟩ = some (.int .u8 (((hdD I).1.getD x 0 : Nat) : Int))) := fun W hW => by
            have e1 : ∀ k, k < w17.heap.size → W.heap[k]? = w17.heap[k]? := fun k hk => (hW.block k (Nat.lt_of_lt_of_le hk HB18.out.size) (by omega)).trans (HB18.out.block k hk)
            refine ⟨?_, fun x hx => ?_⟩
            · rw [World.cell?_of_block (w := w17) (a := ⟨w5.heap.size + 1, 0, none⟩) (e1 _ hkl)]
              exact HKc.out
            · rw [World.cell?_of_block (w := w17) (a := ⟨gh, x, none⟩) (e1 _ hgl)]
              exact HHo.out.cell x (by rw [HHl.out]; exact hx)
          have HQd : Hid (∀ W, Keeps (fun k => k = w17.heap.size) w18 W → ∀ j, j < 8 → W.cell? ⟨ab, j, none⟩ = some (.int .i64 (((atD I).getD j 0 : Nat) : Int)) ∧ W.cell? ⟨lb, j, none⟩ = some (.int .i64 (((lsD I).getD j 0 : Nat) : Int)) ∧ W.cell? ⟨pb, j * 2, none⟩ = some (qv qs j) ∧ Own W W0.heap.size (qv qs j) (pS I j).1) := fun W hW j hj => by
            have e1 : ∀ k, k < w17.heap.size → W.heap[k]? = w17.heap[k]? := fun k hk => (hW.block k (Nat.lt_of_lt_of_le hk HB18.out.size) (by omega)).trans (HB18.out.block k hk)
            have up : ∀ (a : Addr) (v : Value), w17.cell? a = some v → W.cell? a = some v := fun a v h => by
              rw [World.cell?_of_block (w := w17) (a := a) (e1 _ (World.block_lt_of_cell? w17 _ h))]
              exact h
            obtain ⟨h1, _, h3, _⟩ := HP17.out.part hj
            refine ⟨up _ _ (HAt17.out j hj), up _ _ (HLs17.out j hj), up _ _ h1, ?_⟩
            exact (h3.below HB18.out).keeps hW (fun k hk e => by have := (h3.lt k hk).2; omega)
          have HSmP : Hid (∀ j, j < 8 → ∀ z ∈ (pS I j).1, z < 256) := fun j hj => (HP17.out.sm j hj).1
          have HSz : Hid (w17.heap.size ≤ w18.heap.size) := HB18.out.size
          have HF18 : Hid (Below w.heap.size w w18) := HF17.out.trans (HB18.out.mono HF17.out.size)
          have HF17s : Hid (w.heap.size ≤ w17.heap.size) := HF17.out.size
          have HK18 : Hid (Keeps (fun k => k = w17.heap.size) w18 w18) := Keeps.refl _ _
          clear HRow HGr HB18 HF17 HAt17 HLs17 HP17 HHo HKc HB5 HB17
          generalize w17.heap.size = bb at *
          go_wp2_with fail
          go_loopw [14] (fun xv wr => ∃ x : Nat, x ≤ 160 ∧ xv = .int .i64 (x : Int) ∧ Hid (Own wr bb (.slice (some ⟨bb, 0, none⟩) EN EN) (layB (List.replicate EN 0) 0 ((hdD I).1.take x))) ∧ Hid (Keeps (fun k => k = bb) w18 wr)) (fun xv _ => 160 - (intOf xv).toNat)
          case atStart => exact ⟨0, by omega, rfl, HO18, HK18⟩
          case round =>
            clear HO18 HK18
            obtain ⟨x, hx, rfl, HO, HK⟩ := hrel
            obtain ⟨k0, hby⟩ := HRd.out _ HK.out
            by_cases hx8 : x < 160
            · have jx : (x : Int) < 160 := by omega
              have jx2 : (x : Int) < (EN : Int) := by omega
              have hw1 : IntKind.i64.wrap ((x : Int) + 1) = ((x + 1 : Nat) : Int) := by rw [IntKind.wrap_i64]; omega
              have k1 := hby x hx8
              have hxl : x < (hdD I).1.length := by rw [HHl.out]; exact hx8
              have hln : (layB (List.replicate EN 0) 0 ((hdD I).1.take x)).length = EN := by
                rw [layB_len (by rw [List.length_take, List.length_replicate]; omega), List.length_replicate]
              have k2 := HO.out.cell x (by rw [hln]; omega)
              have k3 := HO.out.thawed x
              have hsm := HHs.out ((hdD I).1.getD x 0) (by rw [List.getD_eq_getElem?_getD, List.getElem?_eq_getElem hxl]; exact List.getElem_mem _)
              have hnx := layB_next (b := List.replicate EN 0) (a := 0) hxl (by rw [List.length_replicate]; omega)
              rw [Nat.zero_add] at hnx
              have HO2 : Hid (Own (wr.setCell ⟨bb, x, none⟩ (.int .u8 (((hdD I).1.getD x 0 : Nat) : Int))) bb (.slice (some ⟨bb, 0, none⟩) EN EN) (layB (List.replicate EN 0) 0 ((hdD I).1.take (x + 1)))) := Lib.hid (by
                rw [← hnx]
                exact HO.out.set x _)
              have HK2 : Hid (Keeps (fun k => k = bb) w18 (wr.setCell ⟨bb, x, none⟩ (.int .u8 (((hdD I).1.getD x 0 : Nat) : Int)))) := HK.out.trans (Keeps.setCell wr bb x _) (fun _ _ e => e)
              clear hnx hby HO HK hln hxl
              generalize (hdD I).1.getD x 0 = z at *
              generalize (layB (List.replicate EN 0) 0 ((hdD I).1.take x)).getD x 0 = zz at *
              go_wp2_with fail
              go_roundw
              case rel => exact ⟨x + 1, by omega, rfl, HO2, HK2⟩
              case measure => simp [intOf]; omega
            · obtain rfl : x = 160 := by omega
              have HO0 : Hid (Own wr bb (.slice (some ⟨bb, 0, none⟩) EN EN) (bD I 0)) := Lib.hid (by
                have h9 := HO.out
                rw [List.take_of_length_le (by rw [HHl.out]; exact Nat.le_refl _), ← hEE] at h9
                rw [← hEE]
                exact h9)
              have HKK := HK
              clear hby HO HK
              obtain ⟨wA, hwA⟩ : ∃ x, x = wr := ⟨_, rfl⟩
              subst hwA
              go_wp2_with fail
              clear k0
              go_loopw [15] (fun jv wr => ∃ j : Nat, j ≤ 8 ∧ jv = .int .i64 (j : Int) ∧ Hid (Own wr bb (.slice (some ⟨bb, 0, none⟩) EN EN) (bD I j)) ∧ Hid (Keeps (fun k => k = bb) w18 wr)) (fun jv _ => 8 - (intOf jv).toNat)
              case atStart => exact ⟨0, by omega, rfl, HO0, HKK⟩
              case round =>
                clear HO0 HKK
                obtain ⟨j, hj, rfl, HO, HK⟩ := hrel
                by_cases hj8 : j < 8
                · have jj : (j : Int) < 8 := by omega
                  have hw1 : IntKind.i64.wrap ((j : Int) + 1) = ((j + 1 : Nat) : Int) := by rw [IntKind.wrap_i64]; omega
                  have HBd : Hid (bD I (j + 1) = layB (bD I j) ((atD I).getD j 0) (pS I j).1) := (rfl : _ = _)
                  have hab := HAb.out j hj8
                  have hlg := HLg.out j hj8
                  have HQj : Hid (∀ W, Keeps (fun k => k = bb) w18 W → W.cell? ⟨ab, j, none⟩ = some (.int .i64 (((atD I).getD j 0 : Nat) : Int)) ∧ W.cell? ⟨lb, j, none⟩ = some (.int .i64 (((lsD I).getD j 0 : Nat) : Int)) ∧ W.cell? ⟨pb, j * 2, none⟩ = some (qv qs j) ∧ Own W W0.heap.size (qv qs j) (pS I j).1) := fun W hW => HQd.out W hW j hj8
                  have HSj : Hid (∀ z ∈ (pS I j).1, z < 256) := HSmP.out j hj8
                  have HBl : Hid ((bD I j).length = EN) := show _ = _ by
                    have h9 := HO.out
                    rcases h9.2 with ⟨hv, _⟩ | ⟨g', c', cur, hv, _⟩
                    · cases hv
                    · simp only [Value.slice.injEq] at hv
                      exact hv.2.1.symm
                  rw [hlg] at hab HQj
                  obtain ⟨bn, hbn⟩ : ∃ bn, bD I (j + 1) = bn := ⟨_, rfl⟩
                  rw [hbn] at HBd
                  have HBn := Lib.hid hbn
                  clear hbn
                  generalize bD I j = b0 at *
                  generalize (atD I).getD j 0 = aj at *
                  generalize (pS I j).1 = ps at *
                  generalize qv qs j = qj at *
                  have HO1 : Hid (Own wr bb (.slice (some ⟨bb, 0, none⟩) EN EN) (layB b0 aj (ps.take 0))) := Lib.hid (by rw [layB_zero]; exact HO.out)
                  have HK1 := HK
                  clear HO HK hlg
                  obtain ⟨pn, hpn⟩ : ∃ pn, ps.length = pn := ⟨_, rfl⟩
                  have HPn := Lib.hid hpn
                  rw [hpn] at hab HQj
                  clear hpn
                  obtain ⟨wB9, hwB9⟩ : ∃ x, x = wr := ⟨_, rfl⟩
                  subst hwB9
                  go_wp2_with fail
                  go_loopw [16] (fun xv wr => ∃ x : Nat, x ≤ pn ∧ xv = .int .i64 (x : Int) ∧ Hid (Own wr bb (.slice (some ⟨bb, 0, none⟩) EN EN) (layB b0 aj (ps.take x))) ∧ Hid (Keeps (fun k => k = bb) w18 wr)) (fun xv _ => pn - (intOf xv).toNat)
                  case atStart => exact ⟨0, Nat.zero_le _, rfl, HO1, HK1⟩
                  case round =>
                    clear HO1 HK1
                    obtain ⟨x, hx, rfl, HO, HK⟩ := hrel
                    obtain ⟨q0, q1, q2, q3⟩ := HQj.out _ HK.out
                    by_cases hxn : x < pn
                    · have jx : (x : Int) < (pn : Int) := by omega
                      have hw2 : IntKind.i64.wrap ((x : Int) + 1) = ((x + 1 : Nat) : Int) := by rw [IntKind.wrap_i64]; omega
                      have hw3 : IntKind.i64.wrap ((aj : Int) + (x : Int)) = ((aj + x : Nat) : Int) := by rw [IntKind.wrap_i64]; omega
                      have jb : ((aj + x : Nat) : Int) < (EN : Int) := by omega
                      have hxl : x < ps.length := by rw [HPn.out]; exact hxn
                      obtain ⟨gq, cq, eq, _, _, hcq, _⟩ := q3.form (by omega)
                      subst eq
                      rw [HPn.out] at q2 hcq
                      have k1 := q3.cell x hxl
                      have hln : (layB b0 aj (ps.take x)).length = EN := by
                        rw [layB_len (by rw [List.length_take, HBl.out, HPn.out]; omega), HBl.out]
                      have k2 := HO.out.cell (aj + x) (by rw [hln]; omega)
                      have k3 := HO.out.thawed (aj + x)
                      have hsm := HSj.out (ps.getD x 0) (by rw [List.getD_eq_getElem?_getD, List.getElem?_eq_getElem hxl]; exact List.getElem_mem _)
                      have hnx := layB_next (b := b0) (a := aj) hxl (by rw [HBl.out]; omega)
                      have HO2 : Hid (∀ W, Own W bb (.slice (some ⟨bb, 0, none⟩) EN EN) (layB b0 aj (ps.take x)) → Own (W.setCell ⟨bb, aj + x, none⟩ (.int .u8 ((ps.getD x 0 : Nat) : Int))) bb (.slice (some ⟨bb, 0, none⟩) EN EN) (layB b0 aj (ps.take (x + 1)))) := fun W hW => by
                        rw [← hnx]
                        exact hW.set (aj + x) _
                      have HK2 : Hid (∀ W, Keeps (fun k => k = bb) w18 W → Keeps (fun k => k = bb) w18 (W.setCell ⟨bb, aj + x, none⟩ (.int .u8 ((ps.getD x 0 : Nat) : Int)))) := fun W hW => hW.trans (Keeps.setCell W bb (aj + x) _) (fun _ _ e => e)
                      have HOd : Hid (Own wr.drew bb (.slice (some ⟨bb, 0, none⟩) EN EN) (layB b0 aj (ps.take x))) := HO.out
                      have HKd : Hid (Keeps (fun k => k = bb) w18 wr.drew) := HK.out.drew
                      have HO3 := Lib.hid (HO2.out _ HOd.out)
                      have HK3 := Lib.hid (HK2.out _ HKd.out)
                      clear hnx HO HK hln hxl q3 HO2 HK2 HOd HKd
                      generalize ps.getD x 0 = z at *
                      generalize (layB b0 aj (ps.take x)).getD (aj + x) 0 = zz at *
                      go_wp2_with fail
                      go_region
                      all_goals
                        go_wp2_with fail
                        go_roundw
                        case rel => exact ⟨x + 1, by omega, rfl, HO3, HK3⟩
                        case measure => simp [intOf]; omega
                    · obtain rfl : x = pn := by omega
                      have jx : ¬ (x : Int) < (x : Int) := by omega
                      rw [List.take_of_length_le (by rw [HPn.out]; exact Nat.le_refl _), ← HBd.out] at HO
                      clear q3
                      go_wp2_with fail
                      go_roundw
                      case rel => exact ⟨j + 1, by omega, rfl, by rw [HBn.out]; exact HO, HK⟩
                      case measure => simp [intOf]; omega
                · obtain rfl : j = 8 := by omega
                  have HBf : Hid (Below w.heap.size w wr) := HF18.out.trans (HK.out.below HF18.out.size (fun i _ e => by have := HF17s.out; omega))
                  go_wp2_with fail
                  go_ret2
                  exact ⟨_, rfl, (by rw [← HFb.out]; exact own_low HO.out HF17s.out), HBf.out⟩
  · have jn : (nd != 0) = true := by simpa using hn0
    have HN0 := Lib.hid hn0
    have HBf : Hid (Below w.heap.size w w5) := HB0.out.trans (HB5.out.mono (by rw [HS0.out]; omega))
    clear hn0
    go_wp2_with fail
    go_ret2
    exact ⟨_, rfl, fun _ => rfl, fun h => absurd h HN0.out, HBf.out⟩
end Go.Proofs.YtmfkggngjeolcaaGreatDoor
/- Bundle, the document's own Encode: walked (written by parts/gen_ekcode.py, parted by parts/mkencsplit.py). Own work. -/
namespace Go.Proofs.YtmfkggngjeolcaaGreatDoor
open Go.RowKit Bn Ek
set_option linter.unusedVariables false
set_option linter.unusedSimpArgs false
set_option maxRecDepth 100000 in
set_option maxHeartbeats 16000000 in
theorem kencodeX {w : World} {im : List Value} {I : Im} (h : ImA w im I) (hc : cntI I < 4000000) : Calls Tryz.prog 16 #[.agg im.toArray] w fun e w' => ∃ v, e = .returned (.tuple #[v, .int .i64 (noD I)]) ∧ (noD I ≠ 0 → v = .slice none 0 0) ∧ (noD I = 0 → Own w' w.heap.size v (bD I 8)) ∧ Below w.heap.size w w' := by
  have hrl : ∀ xs : List Gd, xs.length ≤ rsz xs := fun xs => by
    induction xs with
    | nil => exact Nat.le_refl _
    | cons g gs ih => rw [rsz, List.length_cons]; omega
  have hrl1 := hrl I.regs
  have hgs := gsum_le I.regs
  have hps := psum_le I.plans
  have hcnt := hc
  unfold cntI at hcnt
  have HCn : Hid (memI I < 4000000) := show _ < _ by omega
  have HGs : Hid (gsum I.regs ≤ 260000000000) := show _ ≤ _ by omega
  have HPs : Hid (psum I.plans ≤ 274877906944) := show _ ≤ _ by unfold memI at hcnt; omega
  have HRl : Hid (I.regs.length ≤ 16000000) := show _ ≤ _ by omega
  have HPl := Lib.hid (pS_len hc)
  have HFl := Lib.hid (few_len I)
  clear hrl hrl1 hgs hps hcnt hc
  obtain ⟨a0, a1, a2, a3, a4, a5, a6, a7, a8, a9, b0, b1, rfl⟩ := list12 h.len
  have HIA := Lib.hid h
  obtain ⟨⟨e0, hbs⟩, ⟨v1, e1, r1, o1⟩, ⟨v2, e2, r2, o2⟩, ⟨v3, e3, r3, o3⟩, ⟨v4, e4, r4, o4⟩, ⟨v5, e5, r5, o5⟩, ⟨v6, e6, r6, o6⟩, ⟨v7, e7, r7, o7⟩, ⟨v8, e8, r8, o8⟩, ⟨e9, o9⟩, ⟨e10, o10⟩, ⟨v11, e11, r11, o11⟩, hl, ho⟩ := h
  simp only [List.getElem?_cons_zero, List.getElem?_cons_succ, Option.some.injEq] at e0 e1 e2 e3 e4 e5 e6 e7 e8 e9 e10 e11
  subst e0 e1 e2 e3 e4 e5 e6 e7 e8 e9 e10 e11
  have hr2 := r2
  obtain ⟨da, dc, rfl, d1, d2, d3⟩ := hr2
  have hr11 := r11
  obtain ⟨ta, tc, rfl, t1, t2, t3⟩ := hr11
  clear d3 t3 hl
  unfold maxLen at d2 t2
  have hB0 : Below w.heap.size w (w.alloc (.cells ([.int .u64 (I.base : Int), a1, .slice da I.devs.length dc, a3, a4, a5, a6, a7, a8, .int .i64 I.master, .int .i64 I.start, .slice ta I.tabs.length tc] : List Value).toArray 33)) := (Below.refl _ _).alloc (Nat.le_refl _) _
  have hbx : (w.alloc (.cells ([.int .u64 (I.base : Int), a1, .slice da I.devs.length dc, a3, a4, a5, a6, a7, a8, .int .i64 I.master, .int .i64 I.start, .slice ta I.tabs.length tc] : List Value).toArray 33)).heap[w.heap.size]? = some (.cells ([.int .u64 (I.base : Int), a1, .slice da I.devs.length dc, a3, a4, a5, a6, a7, a8, .int .i64 I.master, .int .i64 I.start, .slice ta I.tabs.length tc] : List Value).toArray 33 (0, 0)) := heap_alloc_new w _
  have s0 : (w.alloc (.cells ([.int .u64 (I.base : Int), a1, .slice da I.devs.length dc, a3, a4, a5, a6, a7, a8, .int .i64 I.master, .int .i64 I.start, .slice ta I.tabs.length tc] : List Value).toArray 33)).heap.size = w.heap.size + 1 := by simp
  have HR1 := Lib.hid (r1.below hB0)
  have HR2 := Lib.hid (r2.below hB0)
  have HR3 := Lib.hid (r3.below hB0)
  have HR4 := Lib.hid (r4.below hB0)
  have HR5 := Lib.hid (r5.below hB0)
  have HR6 := Lib.hid (r6.below hB0)
  have HR7 := Lib.hid (r7.below hB0)
  have HR8 := Lib.hid (r8.below hB0)
  have HFew := Lib.hid (few_row (r11.below hB0))
  have HO1 : Hid (∀ x ∈ I.rams, rgOk x) := o1
  have HO2 : Hid (∀ x ∈ I.devs, rgOk x) := o2
  have HO3 : Hid (∀ x ∈ I.subs, tnOk x) := o3
  have HO4 : Hid (∀ x ∈ I.ports, I64R x) := o4
  have HO5 : Hid (∀ x ∈ I.regs, gdOk x) := o5
  have HO6 : Hid (∀ x ∈ I.chs, lkOk x) := o6
  have HO7 : Hid (∀ x ∈ I.irqs, lkOk x) := o7
  have HO8 : Hid (∀ x ∈ I.plans, scOk x) := o8
  have HO9 : Hid (I64R I.master) := o9
  have HO10 : Hid (I64R I.start) := o10
  have HOf : Hid (∀ x ∈ fewD I, tbOk x) := fun x hx => o11 x (few_mem I x hx)
  have HOn := Lib.hid ho
  have HB0 := Lib.hid hB0
  have HBx := Lib.hid hbx
  have HS0 := Lib.hid s0
  have HBs : Hid (I.base ≤ 18446744073709551615) := hbs
  have HDl : Hid (I.devs.length ≤ 4000000) := show _ ≤ _ by have := HCn.out; unfold memI at this; omega
  have HTl : Hid (I.tabs.length ≤ 4000000) := show _ ≤ _ by have := HCn.out; unfold memI at this; omega
  clear r1 r2 r3 r4 r5 r6 r7 r8 r11 o1 o2 o3 o4 o5 o6 o7 o8 o9 o10 o11 ho hB0 hbx s0 hbs
  obtain ⟨nd, hnd⟩ : ∃ nd, noD I = nd := ⟨_, rfl⟩
  obtain ⟨fb, hfb⟩ : ∃ fb, bD I 8 = fb := ⟨_, rfl⟩
  rw [hnd, hfb]
  have HNde := Lib.hid hnd
  have HFb := Lib.hid hfb
  clear hnd hfb
  go_enter Tryz.func16, Tryz.ntmps16
  go_upto_region 1 with fail
  generalize hG0 : (w.alloc (.cells ([.int .u64 (I.base : Int), a1, .slice da I.devs.length dc, a3, a4, a5, a6, a7, a8, .int .i64 I.master, .int .i64 I.start, .slice ta I.tabs.length tc] : List Value).toArray 33)) = W0 at *
  have HBox : Hid (∀ W, Below W0.heap.size W0 W → W.cell? ⟨w.heap.size, 0, none⟩ = some (.int .u64 (I.base : Int)) ∧ W.cell? ⟨w.heap.size, 1, none⟩ = some a1 ∧ W.cell? ⟨w.heap.size, 2, none⟩ = some (.slice da I.devs.length dc) ∧ W.cell? ⟨w.heap.size, 3, none⟩ = some a3 ∧ W.cell? ⟨w.heap.size, 4, none⟩ = some a4 ∧ W.cell? ⟨w.heap.size, 5, none⟩ = some a5 ∧ W.cell? ⟨w.heap.size, 6, none⟩ = some a6 ∧ W.cell? ⟨w.heap.size, 7, none⟩ = some a7 ∧ W.cell? ⟨w.heap.size, 8, none⟩ = some a8 ∧ W.cell? ⟨w.heap.size, 9, none⟩ = some (.int .i64 I.master) ∧ W.cell? ⟨w.heap.size, 10, none⟩ = some (.int .i64 I.start) ∧ W.cell? ⟨w.heap.size, 11, none⟩ = some (.slice ta I.tabs.length tc)) := fun W hW => by
    have h9 := (hW.block w.heap.size (by rw [HS0.out]; omega)).trans HBx.out
    exact ⟨(box_cell h9 0).trans rfl, (box_cell h9 1).trans rfl, (box_cell h9 2).trans rfl, (box_cell h9 3).trans rfl, (box_cell h9 4).trans rfl, (box_cell h9 5).trans rfl, (box_cell h9 6).trans rfl, (box_cell h9 7).trans rfl, (box_cell h9 8).trans rfl, (box_cell h9 9).trans rfl, (box_cell h9 10).trans rfl, (box_cell h9 11).trans rfl⟩
  clear hG0
  obtain ⟨c0, c1, c2, c3, c4, c5, c6, c7, c8, c9, c10, c11⟩ := HBox.out W0 (Below.refl _ _)
  -- the tables
  go_upto_if 21 with fail
  go_cut [4] (fun y wx => y = fewV I ta tc ∧ wx = W0)
  case first =>
    by_cases ht : 1024 < I.tabs.length
    · have jt : (1024 : Int) < (I.tabs.length : Int) := by omega
      have HFv : Hid (fewV I ta tc = .slice none 0 0) := if_pos ht
      clear ht
      go_wp2_with fail
      go_meet
      exact ⟨HFv.out.symm, rfl⟩
    · have jt : ¬ (1024 : Int) < (I.tabs.length : Int) := by omega
      have HFv : Hid (fewV I ta tc = .slice ta I.tabs.length tc) := if_neg ht
      clear ht
      go_wp2_with fail
      go_meet
      exact ⟨HFv.out.symm, rfl⟩
  case rest =>
    obtain ⟨rfl, hw⟩ := hcut
    have hw := hw.symm
    subst hw
    obtain ⟨fv, hfv⟩ : ∃ fv, fewV I ta tc = fv := ⟨_, rfl⟩
    rw [hfv] at HFew ⊢
    clear hfv
    have HC0 : Hid (∀ W, Below W0.heap.size W0 W → Calls Tryz.prog 29 #[.agg #[a1, .slice da I.devs.length dc]] W fun e w' => ∃ v, e = .returned (.agg #[v, .int .i64 (pS I 0).2]) ∧ (w'.cell? ⟨w.heap.size, 0, none⟩ = some (.int .u64 (I.base : Int)) ∧ w'.cell? ⟨w.heap.size, 1, none⟩ = some a1 ∧ w'.cell? ⟨w.heap.size, 2, none⟩ = some (.slice da I.devs.length dc) ∧ w'.cell? ⟨w.heap.size, 3, none⟩ = some a3 ∧ w'.cell? ⟨w.heap.size, 4, none⟩ = some a4 ∧ w'.cell? ⟨w.heap.size, 5, none⟩ = some a5 ∧ w'.cell? ⟨w.heap.size, 6, none⟩ = some a6 ∧ w'.cell? ⟨w.heap.size, 7, none⟩ = some a7 ∧ w'.cell? ⟨w.heap.size, 8, none⟩ = some a8 ∧ w'.cell? ⟨w.heap.size, 9, none⟩ = some (.int .i64 I.master) ∧ w'.cell? ⟨w.heap.size, 10, none⟩ = some (.int .i64 I.start) ∧ w'.cell? ⟨w.heap.size, 11, none⟩ = some (.slice ta I.tabs.length tc)) ∧ Hid (Own w' W.heap.size v (pS I 0).1) ∧ Hid (Below W.heap.size W w') ∧ Hid ((∀ z ∈ (pS I 0).1, z < 256) ∧ ((pS I 0).2 = 0 ∨ (pS I 0).2 = 132))) := fun W hW => (kbusX (HR1.out.below hW) (HR2.out.below hW) HO1.out HO2.out (by have := HCn.out; unfold memI at this; omega) (by have := HCn.out; unfold memI at this; omega)).mono (fun e w' ⟨v, e1, e2, e3, e4, e5⟩ => ⟨v, e1, HBox.out w' (hW.trans (e5.mono hW.size)), e2, e5, e3, e4⟩)
    have HC1 : Hid (∀ W, Below W0.heap.size W0 W → Calls Tryz.prog 30 #[a3] W fun e w' => ∃ v, e = .returned (.agg #[v, .int .i64 (pS I 1).2]) ∧ (w'.cell? ⟨w.heap.size, 0, none⟩ = some (.int .u64 (I.base : Int)) ∧ w'.cell? ⟨w.heap.size, 1, none⟩ = some a1 ∧ w'.cell? ⟨w.heap.size, 2, none⟩ = some (.slice da I.devs.length dc) ∧ w'.cell? ⟨w.heap.size, 3, none⟩ = some a3 ∧ w'.cell? ⟨w.heap.size, 4, none⟩ = some a4 ∧ w'.cell? ⟨w.heap.size, 5, none⟩ = some a5 ∧ w'.cell? ⟨w.heap.size, 6, none⟩ = some a6 ∧ w'.cell? ⟨w.heap.size, 7, none⟩ = some a7 ∧ w'.cell? ⟨w.heap.size, 8, none⟩ = some a8 ∧ w'.cell? ⟨w.heap.size, 9, none⟩ = some (.int .i64 I.master) ∧ w'.cell? ⟨w.heap.size, 10, none⟩ = some (.int .i64 I.start) ∧ w'.cell? ⟨w.heap.size, 11, none⟩ = some (.slice ta I.tabs.length tc)) ∧ Hid (Own w' W.heap.size v (pS I 1).1) ∧ Hid (Below W.heap.size W w') ∧ Hid ((∀ z ∈ (pS I 1).1, z < 256) ∧ ((pS I 1).2 = 0 ∨ (pS I 1).2 = 132))) := fun W hW => (ksubjectsX (HR3.out.below hW) HO3.out (by have := HCn.out; unfold memI at this; omega)).mono (fun e w' ⟨v, e1, e2, e3, e4, e5⟩ => ⟨v, e1, HBox.out w' (hW.trans (e5.mono hW.size)), e2, e5, e3, e4⟩)
    have HC2 : Hid (∀ W, Below W0.heap.size W0 W → Calls Tryz.prog 31 #[a4, .int .i64 (I.devs.length : Int)] W fun e w' => ∃ v, e = .returned (.agg #[v, .int .i64 (pS I 2).2]) ∧ (w'.cell? ⟨w.heap.size, 0, none⟩ = some (.int .u64 (I.base : Int)) ∧ w'.cell? ⟨w.heap.size, 1, none⟩ = some a1 ∧ w'.cell? ⟨w.heap.size, 2, none⟩ = some (.slice da I.devs.length dc) ∧ w'.cell? ⟨w.heap.size, 3, none⟩ = some a3 ∧ w'.cell? ⟨w.heap.size, 4, none⟩ = some a4 ∧ w'.cell? ⟨w.heap.size, 5, none⟩ = some a5 ∧ w'.cell? ⟨w.heap.size, 6, none⟩ = some a6 ∧ w'.cell? ⟨w.heap.size, 7, none⟩ = some a7 ∧ w'.cell? ⟨w.heap.size, 8, none⟩ = some a8 ∧ w'.cell? ⟨w.heap.size, 9, none⟩ = some (.int .i64 I.master) ∧ w'.cell? ⟨w.heap.size, 10, none⟩ = some (.int .i64 I.start) ∧ w'.cell? ⟨w.heap.size, 11, none⟩ = some (.slice ta I.tabs.length tc)) ∧ Hid (Own w' W.heap.size v (pS I 2).1) ∧ Hid (Below W.heap.size W w') ∧ Hid ((∀ z ∈ (pS I 2).1, z < 256) ∧ ((pS I 2).2 = 0 ∨ (pS I 2).2 = 132))) := fun W hW => (kportsX (by have := HCn.out; unfold memI at this; omega) (HR4.out.below hW) HO4.out (by have := HCn.out; unfold memI at this; omega)).mono (fun e w' ⟨v, e1, e2, e3, e4, e5⟩ => ⟨v, e1, HBox.out w' (hW.trans (e5.mono hW.size)), e2, e5, e3, e4⟩)
    have HC3 : Hid (∀ W, Below W0.heap.size W0 W → Calls Tryz.prog 32 #[a5] W fun e w' => ∃ v, e = .returned (.agg #[v, .int .i64 (pS I 3).2]) ∧ (w'.cell? ⟨w.heap.size, 0, none⟩ = some (.int .u64 (I.base : Int)) ∧ w'.cell? ⟨w.heap.size, 1, none⟩ = some a1 ∧ w'.cell? ⟨w.heap.size, 2, none⟩ = some (.slice da I.devs.length dc) ∧ w'.cell? ⟨w.heap.size, 3, none⟩ = some a3 ∧ w'.cell? ⟨w.heap.size, 4, none⟩ = some a4 ∧ w'.cell? ⟨w.heap.size, 5, none⟩ = some a5 ∧ w'.cell? ⟨w.heap.size, 6, none⟩ = some a6 ∧ w'.cell? ⟨w.heap.size, 7, none⟩ = some a7 ∧ w'.cell? ⟨w.heap.size, 8, none⟩ = some a8 ∧ w'.cell? ⟨w.heap.size, 9, none⟩ = some (.int .i64 I.master) ∧ w'.cell? ⟨w.heap.size, 10, none⟩ = some (.int .i64 I.start) ∧ w'.cell? ⟨w.heap.size, 11, none⟩ = some (.slice ta I.tabs.length tc)) ∧ Hid (Own w' W.heap.size v (pS I 3).1) ∧ Hid (Below W.heap.size W w') ∧ Hid ((∀ z ∈ (pS I 3).1, z < 256) ∧ ((pS I 3).2 = 0 ∨ (pS I 3).2 = 132))) := fun W hW => (kregionsX HGs.out (HR5.out.below hW) HO5.out HRl.out).mono (fun e w' ⟨v, e1, e2, e3, e4, e5⟩ => ⟨v, e1, HBox.out w' (hW.trans (e5.mono hW.size)), e2, e5, e3, e4⟩)
    have HC4 : Hid (∀ W, Below W0.heap.size W0 W → Calls Tryz.prog 33 #[a6] W fun e w' => ∃ v, e = .returned (.agg #[v, .int .i64 (pS I 4).2]) ∧ (w'.cell? ⟨w.heap.size, 0, none⟩ = some (.int .u64 (I.base : Int)) ∧ w'.cell? ⟨w.heap.size, 1, none⟩ = some a1 ∧ w'.cell? ⟨w.heap.size, 2, none⟩ = some (.slice da I.devs.length dc) ∧ w'.cell? ⟨w.heap.size, 3, none⟩ = some a3 ∧ w'.cell? ⟨w.heap.size, 4, none⟩ = some a4 ∧ w'.cell? ⟨w.heap.size, 5, none⟩ = some a5 ∧ w'.cell? ⟨w.heap.size, 6, none⟩ = some a6 ∧ w'.cell? ⟨w.heap.size, 7, none⟩ = some a7 ∧ w'.cell? ⟨w.heap.size, 8, none⟩ = some a8 ∧ w'.cell? ⟨w.heap.size, 9, none⟩ = some (.int .i64 I.master) ∧ w'.cell? ⟨w.heap.size, 10, none⟩ = some (.int .i64 I.start) ∧ w'.cell? ⟨w.heap.size, 11, none⟩ = some (.slice ta I.tabs.length tc)) ∧ Hid (Own w' W.heap.size v (pS I 4).1) ∧ Hid (Below W.heap.size W w') ∧ Hid ((∀ z ∈ (pS I 4).1, z < 256) ∧ ((pS I 4).2 = 0 ∨ (pS I 4).2 = 132))) := fun W hW => (kchannelsX (HR6.out.below hW) HO6.out (by have := HCn.out; unfold memI at this; omega)).mono (fun e w' ⟨v, e1, e2, e3, e4, e5⟩ => ⟨v, e1, HBox.out w' (hW.trans (e5.mono hW.size)), e2, e5, e3, e4⟩)
    have HC5 : Hid (∀ W, Below W0.heap.size W0 W → Calls Tryz.prog 34 #[a7] W fun e w' => ∃ v, e = .returned (.agg #[v, .int .i64 (pS I 5).2]) ∧ (w'.cell? ⟨w.heap.size, 0, none⟩ = some (.int .u64 (I.base : Int)) ∧ w'.cell? ⟨w.heap.size, 1, none⟩ = some a1 ∧ w'.cell? ⟨w.heap.size, 2, none⟩ = some (.slice da I.devs.length dc) ∧ w'.cell? ⟨w.heap.size, 3, none⟩ = some a3 ∧ w'.cell? ⟨w.heap.size, 4, none⟩ = some a4 ∧ w'.cell? ⟨w.heap.size, 5, none⟩ = some a5 ∧ w'.cell? ⟨w.heap.size, 6, none⟩ = some a6 ∧ w'.cell? ⟨w.heap.size, 7, none⟩ = some a7 ∧ w'.cell? ⟨w.heap.size, 8, none⟩ = some a8 ∧ w'.cell? ⟨w.heap.size, 9, none⟩ = some (.int .i64 I.master) ∧ w'.cell? ⟨w.heap.size, 10, none⟩ = some (.int .i64 I.start) ∧ w'.cell? ⟨w.heap.size, 11, none⟩ = some (.slice ta I.tabs.length tc)) ∧ Hid (Own w' W.heap.size v (pS I 5).1) ∧ Hid (Below W.heap.size W w') ∧ Hid ((∀ z ∈ (pS I 5).1, z < 256) ∧ ((pS I 5).2 = 0 ∨ (pS I 5).2 = 132))) := fun W hW => (kirqsX (HR7.out.below hW) HO7.out (by have := HCn.out; unfold memI at this; omega)).mono (fun e w' ⟨v, e1, e2, e3, e4, e5⟩ => ⟨v, e1, HBox.out w' (hW.trans (e5.mono hW.size)), e2, e5, e3, e4⟩)
    have HC6 : Hid (∀ W, Below W0.heap.size W0 W → Calls Tryz.prog 35 #[.agg ([.int .u64 (I.base : Int), a1, .slice da I.devs.length dc, a3, a4, a5, a6, a7, a8, .int .i64 I.master, .int .i64 I.start, .slice ta I.tabs.length tc] : List Value).toArray] W fun e w' => ∃ v, e = .returned (.agg #[v, .int .i64 (pS I 6).2]) ∧ (w'.cell? ⟨w.heap.size, 0, none⟩ = some (.int .u64 (I.base : Int)) ∧ w'.cell? ⟨w.heap.size, 1, none⟩ = some a1 ∧ w'.cell? ⟨w.heap.size, 2, none⟩ = some (.slice da I.devs.length dc) ∧ w'.cell? ⟨w.heap.size, 3, none⟩ = some a3 ∧ w'.cell? ⟨w.heap.size, 4, none⟩ = some a4 ∧ w'.cell? ⟨w.heap.size, 5, none⟩ = some a5 ∧ w'.cell? ⟨w.heap.size, 6, none⟩ = some a6 ∧ w'.cell? ⟨w.heap.size, 7, none⟩ = some a7 ∧ w'.cell? ⟨w.heap.size, 8, none⟩ = some a8 ∧ w'.cell? ⟨w.heap.size, 9, none⟩ = some (.int .i64 I.master) ∧ w'.cell? ⟨w.heap.size, 10, none⟩ = some (.int .i64 I.start) ∧ w'.cell? ⟨w.heap.size, 11, none⟩ = some (.slice ta I.tabs.length tc)) ∧ Hid (Own w' W.heap.size v (pS I 6).1) ∧ Hid (Below W.heap.size W w') ∧ Hid ((∀ z ∈ (pS I 6).1, z < 256) ∧ ((pS I 6).2 = 0 ∨ (pS I 6).2 = 132))) := fun W hW => (kplansX (im := [.int .u64 (I.base : Int), a1, .slice da I.devs.length dc, a3, a4, a5, a6, a7, a8, .int .i64 I.master, .int .i64 I.start, .slice ta I.tabs.length tc]) rfl rfl rfl rfl HOn.out (HR8.out.below hW) HO8.out HO9.out HO10.out HPs.out).mono (fun e w' ⟨v, e1, e2, e3, e4, e5⟩ => ⟨v, e1, HBox.out w' (hW.trans (e5.mono hW.size)), e2, e5, e3, e4⟩)
    have HC7 : Hid (∀ W, Below W0.heap.size W0 W → Calls Tryz.prog 36 #[fv] W fun e w' => ∃ v, e = .returned (.agg #[v, .int .i64 (pS I 7).2]) ∧ (w'.cell? ⟨w.heap.size, 0, none⟩ = some (.int .u64 (I.base : Int)) ∧ w'.cell? ⟨w.heap.size, 1, none⟩ = some a1 ∧ w'.cell? ⟨w.heap.size, 2, none⟩ = some (.slice da I.devs.length dc) ∧ w'.cell? ⟨w.heap.size, 3, none⟩ = some a3 ∧ w'.cell? ⟨w.heap.size, 4, none⟩ = some a4 ∧ w'.cell? ⟨w.heap.size, 5, none⟩ = some a5 ∧ w'.cell? ⟨w.heap.size, 6, none⟩ = some a6 ∧ w'.cell? ⟨w.heap.size, 7, none⟩ = some a7 ∧ w'.cell? ⟨w.heap.size, 8, none⟩ = some a8 ∧ w'.cell? ⟨w.heap.size, 9, none⟩ = some (.int .i64 I.master) ∧ w'.cell? ⟨w.heap.size, 10, none⟩ = some (.int .i64 I.start) ∧ w'.cell? ⟨w.heap.size, 11, none⟩ = some (.slice ta I.tabs.length tc)) ∧ Hid (Own w' W.heap.size v (pS I 7).1) ∧ Hid (Below W.heap.size W w') ∧ Hid ((∀ z ∈ (pS I 7).1, z < 256) ∧ ((pS I 7).2 = 0 ∨ (pS I 7).2 = 132))) := fun W hW => (ktablesX (HFew.out.below hW) HOf.out HFl.out).mono (fun e w' ⟨v, e1, e2, e3, e4, e5⟩ => ⟨v, e1, HBox.out w' (hW.trans (e5.mono hW.size)), e2, e5, e3, e4⟩)
    have HD : Hid (Below W0.heap.size W0 W0.drew) := ⟨rfl, rfl, rfl, Nat.le_refl _, fun _ _ => rfl⟩
    clear HR1 HR2 HR3 HR4 HR5 HR6 HR7 HR8 HO1 HO2 HO3 HO4 HO5 HO6 HO7 HO8 HO9 HO10
    go_upto_region 4 with fail
    go_cut [5] (fun y wx => ∃ pb qs, y = .slice (some ⟨pb, 0, none⟩) 8 8 ∧ Hid (Pts W0.heap.size I pb qs wx) ∧ Hid (Below W0.heap.size W0 wx))
    case first =>
      go_region_held3 (fun w' => w'.cell? ⟨w.heap.size, 0, none⟩ = some (.int .u64 (I.base : Int)) ∧ w'.cell? ⟨w.heap.size, 1, none⟩ = some a1 ∧ w'.cell? ⟨w.heap.size, 2, none⟩ = some (.slice da I.devs.length dc) ∧ w'.cell? ⟨w.heap.size, 3, none⟩ = some a3 ∧ w'.cell? ⟨w.heap.size, 4, none⟩ = some a4 ∧ w'.cell? ⟨w.heap.size, 5, none⟩ = some a5 ∧ w'.cell? ⟨w.heap.size, 6, none⟩ = some a6 ∧ w'.cell? ⟨w.heap.size, 7, none⟩ = some a7 ∧ w'.cell? ⟨w.heap.size, 8, none⟩ = some a8 ∧ w'.cell? ⟨w.heap.size, 9, none⟩ = some (.int .i64 I.master) ∧ w'.cell? ⟨w.heap.size, 10, none⟩ = some (.int .i64 I.start) ∧ w'.cell? ⟨w.heap.size, 11, none⟩ = some (.slice ta I.tabs.length tc)) (go_keep) (first | (go_at_call 29; refine (HC0.out _ HD.out).mono ?_; rintro e w1 ⟨u0, rfl, ⟨k0, k1, k2, k3, k4, k5, k6, k7, k8, k9, k10, k11⟩, HO0x, HN0, HZ0⟩; have HB1 : Hid (Below W0.heap.size W0 w1) := (HD.out).trans (HN0.out.mono (HD.out).size); have HO01 : Hid (Own w1 W0.heap.size u0 (pS I 0).1) := own_low HO0x.out (HD.out).size) | (go_at_call 30; refine (HC1.out _ HB1.out).mono ?_; rintro e w2 ⟨u1, rfl, ⟨k0, k1, k2, k3, k4, k5, k6, k7, k8, k9, k10, k11⟩, HO1x, HN1, HZ1⟩; have HB2 : Hid (Below W0.heap.size W0 w2) := (HB1.out).trans (HN1.out.mono (HB1.out).size); have HO12 : Hid (Own w2 W0.heap.size u1 (pS I 1).1) := own_low HO1x.out (HB1.out).size; have HO02 : Hid (Own w2 W0.heap.size u0 (pS I 0).1) := HO01.out.below HN1.out) | (go_at_call 31; refine (HC2.out _ HB2.out).mono ?_; rintro e w3 ⟨u2, rfl, ⟨k0, k1, k2, k3, k4, k5, k6, k7, k8, k9, k10, k11⟩, HO2x, HN2, HZ2⟩; have HB3 : Hid (Below W0.heap.size W0 w3) := (HB2.out).trans (HN2.out.mono (HB2.out).size); have HO23 : Hid (Own w3 W0.heap.size u2 (pS I 2).1) := own_low HO2x.out (HB2.out).size; have HO03 : Hid (Own w3 W0.heap.size u0 (pS I 0).1) := HO02.out.below HN2.out; have HO13 : Hid (Own w3 W0.heap.size u1 (pS I 1).1) := HO12.out.below HN2.out) | (go_at_call 32; refine (HC3.out _ HB3.out).mono ?_; rintro e w4 ⟨u3, rfl, ⟨k0, k1, k2, k3, k4, k5, k6, k7, k8, k9, k10, k11⟩, HO3x, HN3, HZ3⟩; have HB4 : Hid (Below W0.heap.size W0 w4) := (HB3.out).trans (HN3.out.mono (HB3.out).size); have HO34 : Hid (Own w4 W0.heap.size u3 (pS I 3).1) := own_low HO3x.out (HB3.out).size; have HO04 : Hid (Own w4 W0.heap.size u0 (pS I 0).1) := HO03.out.below HN3.out; have HO14 : Hid (Own w4 W0.heap.size u1 (pS I 1).1) := HO13.out.below HN3.out; have HO24 : Hid (Own w4 W0.heap.size u2 (pS I 2).1) := HO23.out.below HN3.out) | (go_at_call 33; refine (HC4.out _ HB4.out).mono ?_; rintro e w5 ⟨u4, rfl, ⟨k0, k1, k2, k3, k4, k5, k6, k7, k8, k9, k10, k11⟩, HO4x, HN4, HZ4⟩; have HB5 : Hid (Below W0.heap.size W0 w5) := (HB4.out).trans (HN4.out.mono (HB4.out).size); have HO45 : Hid (Own w5 W0.heap.size u4 (pS I 4).1) := own_low HO4x.out (HB4.out).size; have HO05 : Hid (Own w5 W0.heap.size u0 (pS I 0).1) := HO04.out.below HN4.out; have HO15 : Hid (Own w5 W0.heap.size u1 (pS I 1).1) := HO14.out.below HN4.out; have HO25 : Hid (Own w5 W0.heap.size u2 (pS I 2).1) := HO24.out.below HN4.out; have HO35 : Hid (Own w5 W0.heap.size u3 (pS I 3).1) := HO34.out.below HN4.out) | (go_at_call 34; refine (HC5.out _ HB5.out).mono ?_; rintro e w6 ⟨u5, rfl, ⟨k0, k1, k2, k3, k4, k5, k6, k7, k8, k9, k10, k11⟩, HO5x, HN5, HZ5⟩; have HB6 : Hid (Below W0.heap.size W0 w6) := (HB5.out).trans (HN5.out.mono (HB5.out).size); have HO56 : Hid (Own w6 W0.heap.size u5 (pS I 5).1) := own_low HO5x.out (HB5.out).size; have HO06 : Hid (Own w6 W0.heap.size u0 (pS I 0).1) := HO05.out.below HN5.out; have HO16 : Hid (Own w6 W0.heap.size u1 (pS I 1).1) := HO15.out.below HN5.out; have HO26 : Hid (Own w6 W0.heap.size u2 (pS I 2).1) := HO25.out.below HN5.out; have HO36 : Hid (Own w6 W0.heap.size u3 (pS I 3).1) := HO35.out.below HN5.out; have HO46 : Hid (Own w6 W0.heap.size u4 (pS I 4).1) := HO45.out.below HN5.out) | (go_at_call 35; refine (HC6.out _ HB6.out).mono ?_; rintro e w7 ⟨u6, rfl, ⟨k0, k1, k2, k3, k4, k5, k6, k7, k8, k9, k10, k11⟩, HO6x, HN6, HZ6⟩; have HB7 : Hid (Below W0.heap.size W0 w7) := (HB6.out).trans (HN6.out.mono (HB6.out).size); have HO67 : Hid (Own w7 W0.heap.size u6 (pS I 6).1) := own_low HO6x.out (HB6.out).size; have HO07 : Hid (Own w7 W0.heap.size u0 (pS I 0).1) := HO06.out.below HN6.out; have HO17 : Hid (Own w7 W0.heap.size u1 (pS I 1).1) := HO16.out.below HN6.out; have HO27 : Hid (Own w7 W0.heap.size u2 (pS I 2).1) := HO26.out.below HN6.out; have HO37 : Hid (Own w7 W0.heap.size u3 (pS I 3).1) := HO36.out.below HN6.out; have HO47 : Hid (Own w7 W0.heap.size u4 (pS I 4).1) := HO46.out.below HN6.out; have HO57 : Hid (Own w7 W0.heap.size u5 (pS I 5).1) := HO56.out.below HN6.out) | (go_at_call 36; refine (HC7.out _ HB7.out).mono ?_; rintro e w8 ⟨u7, rfl, ⟨k0, k1, k2, k3, k4, k5, k6, k7, k8, k9, k10, k11⟩, HO7x, HN7, HZ7⟩; have HB8 : Hid (Below W0.heap.size W0 w8) := (HB7.out).trans (HN7.out.mono (HB7.out).size); have HO78 : Hid (Own w8 W0.heap.size u7 (pS I 7).1) := own_low HO7x.out (HB7.out).size; have HO08 : Hid (Own w8 W0.heap.size u0 (pS I 0).1) := HO07.out.below HN7.out; have HO18 : Hid (Own w8 W0.heap.size u1 (pS I 1).1) := HO17.out.below HN7.out; have HO28 : Hid (Own w8 W0.heap.size u2 (pS I 2).1) := HO27.out.below HN7.out; have HO38 : Hid (Own w8 W0.heap.size u3 (pS I 3).1) := HO37.out.below HN7.out; have HO48 : Hid (Own w8 W0.heap.size u4 (pS I 4).1) := HO47.out.below HN7.out; have HO58 : Hid (Own w8 W0.heap.size u5 (pS I 5).1) := HO57.out.below HN7.out; have HO68 : Hid (Own w8 W0.heap.size u6 (pS I 6).1) := HO67.out.below HN7.out))
      go_wp2_with fail
      go_meet
      have hal : Below w8.heap.size w8 (w8.alloc (.cells #[u0, .int .i64 (pS I 0).2, u1, .int .i64 (pS I 1).2, u2, .int .i64 (pS I 2).2, u3, .int .i64 (pS I 3).2, u4, .int .i64 (pS I 4).2, u5, .int .i64 (pS I 5).2, u6, .int .i64 (pS I 6).2, u7, .int .i64 (pS I 7).2] 101)) := (Below.refl _ _).alloc (Nat.le_refl _) _
      refine ⟨w8.heap.size, [(u0, (pS I 0).2), (u1, (pS I 1).2), (u2, (pS I 2).2), (u3, (pS I 3).2), (u4, (pS I 4).2), (u5, (pS I 5).2), (u6, (pS I 6).2), (u7, (pS I 7).2)], rfl, Lib.hid ⟨rfl, heap_alloc_new w8 _, HB8.out.size, fun j hj => ?_, fun j hj => ?_⟩, Lib.hid (HB8.out.trans (hal.mono HB8.out.size))⟩
      · match j, hj with
        | 0, _ => exact ⟨HO08.out.below hal, rfl⟩
        | 1, _ => exact ⟨HO18.out.below hal, rfl⟩
        | 2, _ => exact ⟨HO28.out.below hal, rfl⟩
        | 3, _ => exact ⟨HO38.out.below hal, rfl⟩
        | 4, _ => exact ⟨HO48.out.below hal, rfl⟩
        | 5, _ => exact ⟨HO58.out.below hal, rfl⟩
        | 6, _ => exact ⟨HO68.out.below hal, rfl⟩
        | 7, _ => exact ⟨HO78.out.below hal, rfl⟩
      · match j, hj with
        | 0, _ => exact HZ0.out
        | 1, _ => exact HZ1.out
        | 2, _ => exact HZ2.out
        | 3, _ => exact HZ3.out
        | 4, _ => exact HZ4.out
        | 5, _ => exact HZ5.out
        | 6, _ => exact HZ6.out
        | 7, _ => exact HZ7.out
    case rest =>
      obtain ⟨pb, qs, rfl, HPt, HBp⟩ := hcut
      clear HC0 HC1 HC2 HC3 HC4 HC5 HC6 HC7 HD c0 c1 c2 c3 c4 c5 c6 c7 c8 c9 c10 c11
      obtain ⟨c0, c1, c2, c3, c4, c5, c6, c7, c8, c9, c10, c11⟩ := HBox.out _ HBp.out
      have HIc : Hid (ImA wc [.int .u64 (I.base : Int), a1, .slice da I.devs.length dc, a3, a4, a5, a6, a7, a8, .int .i64 I.master, .int .i64 I.start, .slice ta I.tabs.length tc] I) := HIA.out.below (HB0.out.trans (HBp.out.mono (by rw [HS0.out]; omega)))
      have HWo := Lib.hid (kworstX HIc.out HRl.out)
      clear HIc
      obtain ⟨wB, hwB⟩ : ∃ x, x = wc := ⟨_, rfl⟩
      subst hwB
      go_wp2_with fail
      refine HWo.out.mono ?_
      rintro e w1 ⟨rfl, hb1⟩
      have HP1 := Lib.hid (HPt.out.below hb1)
      have HB1 : Hid (Below W0.heap.size W0 w1) := HBp.out.trans (hb1.mono HBp.out.size)
      clear c0 c1 c2 c3 c4 c5 c6 c7 c8 c9 c10 c11 HWo HPt HBp hb1
      have H0 : Hid (OwnG 3 1 ntE w1 w1.heap.size (.slice none 0 0) ((lsD I).take 0)) := OwnG.nil _ _ _ _ _
      go_wp2_with fail
      go_loopw [6, 7, 8] (fun nv lv jv wr => ∃ (j : Nat) (va : Option Addr) (vc : Nat), j ≤ 8 ∧ jv = .int .i64 (j : Int) ∧ nv = .int .i64 (noK I j) ∧ lv = .slice va j vc ∧ Hid (OwnG 3 1 ntE wr w1.heap.size (.slice va j vc) ((lsD I).take j)) ∧ Hid (Below w1.heap.size w1 wr)) (fun _ _ jv _ => 8 - (intOf jv).toNat)
      case atStart => exact ⟨0, none, 0, by omega, rfl, rfl, rfl, H0, Lib.hid (Below.refl _ _)⟩
      case round =>
        clear H0
        obtain ⟨j, va, vc, hj, rfl, rfl, rfl, HO, HB⟩ := hrel
        by_cases hj8 : j < 8
        · have jj : (j : Int) < 8 := by omega
          have hw1 : IntKind.i64.wrap ((j : Int) + 1) = ((j + 1 : Nat) : Int) := by rw [IntKind.wrap_i64]; omega
          have HPr := Lib.hid (HP1.out.below HB.out)
          obtain ⟨p0, p1, _, xa, xc, hq⟩ := HPr.out.part hj8
          obtain ⟨hsm, hno⟩ := HPr.out.sm j hj8
          have hna := noK_in (fun i hi => (HPr.out.sm i hi).2) j hj
          have HNx : Hid (noK I (j + 1) = if (noK I j = 0 ∨ noK I j = 3 ∧ (pS I j).2 = 132) ∧ (pS I j).2 ≠ 0 then (pS I j).2 else noK I j) := (rfl : _ = _)
          have HLt := Lib.hid (lsD_take I hj8)
          have HLl : Hid (((lsD I).take j).length = j) := show _ = _ by rw [List.length_take, lsD_len]; omega
          rw [hq] at p0
          clear hq hsm
          have hg9 := HPl.out j
          obtain ⟨g, hg⟩ : ∃ g, (pS I j).1.length = g := ⟨_, rfl⟩
          rw [hg] at p0 HLt hg9
          clear hg
          generalize (lsD I).take j = ls at *
          obtain ⟨nx, hnx⟩ : ∃ nx, noK I (j + 1) = nx := ⟨_, rfl⟩
          rw [hnx] at HNx
          have HNe := Lib.hid hnx
          clear hnx
          generalize noK I j = a at *
          generalize (pS I j).2 = p at *
          obtain ⟨wA, hwA⟩ : ∃ x, x = wr := ⟨_, rfl⟩
          subst hwA
          go_upto_region 10 with fail
          go_cut [70] (fun y wx => y = .bool ((a == 0) || (a == 3 && p == 132)) ∧ wx = wA)
          case first =>
            as_aux_lemma =>
              rcases hna with rfl | rfl | rfl <;> rcases hno with rfl | rfl
              all_goals
                go_wp2_with fail
                go_meet
                exact ⟨rfl, rfl⟩
          case rest =>
            obtain ⟨rfl, hw⟩ := hcut
            have hw := hw.symm
            subst hw
            go_upto_if 70 with fail
            go_cut [6] (fun y wx => y = .int .i64 nx ∧ wx = wA)
            case first =>
              as_aux_lemma =>
                rcases hna with rfl | rfl | rfl <;> rcases hno with rfl | rfl
                all_goals
                  have hx := HNx.out
                  simp at hx
                  have hx2 := hx.symm
                  subst hx2
                  clear hx
                  go_wp2_with fail
                  go_meet
                  exact ⟨rfl, rfl⟩
            case rest =>
              obtain ⟨rfl, hw⟩ := hcut
              have hw := hw.symm
              subst hw
              clear hna hno HNx p1
              obtain ⟨W, hW⟩ : ∃ W, W = wA.alloc (.cells #[.int .i64 (g : Int)] 3) := ⟨_, rfl⟩
              have hlow : Below wA.heap.size wA W := by rw [hW]; exact (Below.refl _ _).alloc (Nat.le_refl _) _
              have HG3 : Hid (W.heap[wA.heap.size]? = some (.cells (ntE g).toArray 3 (0, 0))) := by rw [hW]; exact heap_alloc_new wA _
              have HO3 : Hid (OwnG 3 1 ntE W w1.heap.size (.slice va j vc) ls) := HO.out.below hlow
              have HS3 : Hid (w1.heap.size ≤ W.heap.size) := Nat.le_trans HB.out.size hlow.size
              have HB3 : Hid (Below w1.heap.size w1 W) := HB.out.trans (hlow.mono HB.out.size)
              subst hW
              clear hlow HO HB
              go_upto_region 9 with (at_builtin; refine wpList_appG (enc := ntE) (x := g) (xs := ls) rfl 82 3 (.tmp 82) (.tmp 89) rfl 1 8 _ Tryz.underlying82 infoNt (by decide) rfl (by decide) nt_ok (by rfl) HO3.out (by rfl) HG3.out (by rw [HLl.out]; omega) HS3.out ?_; intro va2 vc2 w4 HO4 HG4; rw [HLl.out])
              have HB4 : Hid (Below w1.heap.size w1 w4) := HB3.out.grown HG4.out HS3.out (fun k e => by
                obtain ⟨_, _, _, _, _, hrow⟩ := HO3.out.form
                exact (hrow k e).1)
              have HO5 : Hid (OwnG 3 1 ntE w4 w1.heap.size (.slice va2 (j + 1) vc2) ((lsD I).take (j + 1))) := Lib.hid (by
                have h9 := HO4.out
                rw [HLl.out] at h9
                rw [HLt.out]
                exact h9)
              clear HO4 HG4 HO3 HB3 HG3 HS3 p0
              go_wp2_with fail
              go_roundw
              case rel => exact ⟨j + 1, va2, vc2, by omega, rfl, by rw [HNe.out], rfl, HO5, HB4⟩
              case measure => simp [intOf]; omega
        · obtain rfl : j = 8 := by omega
          have HO8 : Hid (OwnG 3 1 ntE wr w1.heap.size (.slice va 8 vc) (lsD I)) := Lib.hid (by
            have h9 := HO.out
            rw [List.take_of_length_le (by rw [lsD_len]; exact Nat.le_refl _)] at h9
            exact h9)
          have HPc := Lib.hid (kplacesX (HO8.out.rowG nt_ok) (by rw [lsD_len]; exact Nat.le_refl _) (plc_ok HPl.out).1 (plc_ok HPl.out).2.1)
          have hE := (plc_ok HPl.out).2.2
          rw [show plc 0 160 (lsD I) = (atD I, endD I) from rfl] at HPc
          simp only [lsD_len] at HPc
          have hna := noK_in (fun i hi => (HP1.out.sm i hi).2) 8 (Nat.le_refl _)
          have HNd : Hid (noD I = if noK I 8 = 0 ∧ (1024 < I.tabs.length ∨ 1024 < endD I / 4096) then 4 else noK I 8) := (rfl : _ = _)
          have hTl := HTl.out
          clear HO
          go_wp2_with fail
          refine HPc.out.mono ?_
          rintro e w5 ⟨ra, rc, rfl, hro, hb5⟩
          have HA5 := Lib.hid hro
          have HL5 := Lib.hid (HO8.out.below hb5)
          have HP5 := Lib.hid ((HP1.out.below HB.out).below hb5)
          have HB5 : Hid (Below W0.heap.size W0 w5) := HB1.out.trans ((HB.out.trans (hb5.mono HB.out.size)).mono HB1.out.size)
          clear hro hb5 HPc HO8 HB HP1 HB1
          obtain ⟨c0, c1, c2, c3, c4, c5, c6, c7, c8, c9, c10, c11⟩ := HBox.out _ HB5.out
          have HEn : Hid (endD I ≤ 3000000000) := hE
          obtain ⟨q, hq⟩ : ∃ q, endD I / 4096 = q := ⟨_, rfl⟩
          have hqd : Int.tdiv ((endD I : Nat) : Int) 4096 = (q : Int) := by rw [← hq]; rfl
          have hql : q ≤ 3000000000 := by omega
          have hqw : IntKind.i64.wrap (q : Int) = (q : Int) := by rw [IntKind.wrap_i64]; omega
          rw [hq] at HNd
          have HQ := Lib.hid hq
          clear hq hE
          rw [HNde.out] at HNd
          obtain ⟨bb, hbb⟩ : ∃ bb, decide (noK I 8 = 0 ∧ (1024 < I.tabs.length ∨ 1024 < q)) = bb := ⟨_, rfl⟩
          have HBb := Lib.hid hbb
          have HNd2 : Hid (nd = if bb = true then 4 else noK I 8) := show _ = _ by
            rw [HNd.out, ← hbb]
            by_cases h : noK I 8 = 0 ∧ (1024 < I.tabs.length ∨ 1024 < q)
            · rw [if_pos h, if_pos (decide_eq_true h)]
            · rw [if_neg h, if_neg (by simpa using h)]
          clear hbb HNd
          generalize noK I 8 = a at *
          go_upto_region 15 with fail
          go_cut [108] (fun y wx => y = .bool bb ∧ wx = w5)
          case first =>
            as_aux_lemma =>
              rcases hna with rfl | rfl | rfl
              · by_cases ht : 1024 < I.tabs.length
                · have jt : (1024 : Int) < (I.tabs.length : Int) := by omega
                  have hbt : bb = true := by rw [← HBb.out]; exact decide_eq_true ⟨rfl, .inl ht⟩
                  subst hbt
                  clear ht
                  go_wp2_with fail
                  go_meet
                  exact ⟨rfl, rfl⟩
                · have jt : ¬ (1024 : Int) < (I.tabs.length : Int) := by omega
                  by_cases hq1 : 1024 < q
                  · have jq : (1024 : Int) < (q : Int) := by omega
                    have hbt : bb = true := by rw [← HBb.out]; exact decide_eq_true ⟨rfl, .inr hq1⟩
                    subst hbt
                    clear ht hq1
                    go_wp2_with fail
                    go_meet
                    exact ⟨rfl, rfl⟩
                  · have jq : ¬ (1024 : Int) < (q : Int) := by omega
                    have hbt : bb = false := by rw [← HBb.out]; exact decide_eq_false (fun h => h.2.elim ht hq1)
                    subst hbt
                    clear ht hq1
                    go_wp2_with fail
                    go_meet
                    exact ⟨rfl, rfl⟩
              · have hbt : bb = false := by rw [← HBb.out]; rfl
                subst hbt
                go_wp2_with fail
                go_meet
                exact ⟨rfl, rfl⟩
              · have hbt : bb = false := by rw [← HBb.out]; rfl
                subst hbt
                go_wp2_with fail
                go_meet
                exact ⟨rfl, rfl⟩
          case rest =>
            obtain ⟨rfl, hw⟩ := hcut
            have hw := hw.symm
            subst hw
            go_upto_if 108 with fail
            go_cut [6] (fun y wx => y = .int .i64 nd ∧ wx = w5)
            case first =>
              as_aux_lemma =>
                cases bb with
                | true =>
                  have h4 := HNd2.out
                  rw [if_pos rfl] at h4
                  subst h4
                  go_wp2_with fail
                  go_meet
                  exact ⟨rfl, rfl⟩
                | false =>
                  have h4 := HNd2.out
                  rw [if_neg (by decide)] at h4
                  subst h4
                  go_wp2_with fail
                  go_meet
                  exact ⟨rfl, rfl⟩
            case rest =>
              obtain ⟨rfl, hw⟩ := hcut
              have hw := hw.symm
              subst hw
              clear HBb HNd2 hna
              have hK := ‹∀ (a : Act) (w : World), Code.wp _ _ _ a w → _›
              refine hK _ _ (kenc_tail HNde HFb HB0 HS0 HBox HBs HA5 HL5 HP5 HB5 HPl HEn hqd hql hqw HQ)
end Go.Proofs.YtmfkggngjeolcaaGreatDoor
/- Bundle, the document's own Encode: its bytes are the program's. Plain. Own work. -/
namespace Go.Proofs.YtmfkggngjeolcaaGreatDoor
open Bn Ek
set_option linter.unusedVariables false
set_option linter.unusedSimpArgs false
def C3 (x : Int) : Prop := x = 0 ∨ x = 3 ∨ x = 132
/-- what the document lays, and what the program does -/
structure T (s t : S) : Prop where
  len : s.1.length = t.1.length
  c : C3 t.2
  no : s.2 = if t.2 = 132 then 132 else 0
  bs : t.2 ≠ 132 → s.1 = t.1
theorem T.start : T ([], 0) ([], 0) := ⟨rfl, .inl rfl, rfl, fun _ => rfl⟩
theorem T.bytes {s t : S} (h : T s t) (m : List Nat) : T (s.1 ++ m, s.2) (t.1 ++ m, t.2) :=
  ⟨by simp [h.len], h.c, h.no, fun e => by show s.1 ++ m = t.1 ++ m; rw [h.bs e]⟩
theorem T.num {s t : S} (h : T s t) (b : Bool) (m m' : List Nat) (hl : m.length = m'.length) (hm : b = true → m = m') : T (s.1 ++ m, fieldF s.2 b) (t.1 ++ m', fieldF t.2 b) := by
  cases b with
  | false => exact ⟨by simp [h.len, hl], .inr (.inr rfl), rfl, fun e => absurd rfl e⟩
  | true =>
    obtain rfl := hm rfl
    exact h.bytes m
theorem T.field {s t : S} (h : T s t) (b : Bool) : T (fieldS b s) (fieldS b t) := by
  have := h.num b [] [] rfl (fun _ => rfl)
  simpa [fieldS] using this
theorem T.zeros {s t : S} (h : T s t) (n : Nat) : T (zerosS n s) (zerosS n t) := h.bytes _
theorem T.long {s t : S} (h : T s t) (n : Nat) : T (longS n s) (longS n t) := h.bytes _
theorem T.byte {s t : S} (h : T s t) (k : Int) : T (numD 1 k s) (byteS k t) := by
  refine h.num (fitB 0 255 k) _ _ (by rw [Pl.le_length, Pl.le_length]) (fun e => ?_)
  have e2 : fitD 1 k = true := e
  have e3 := (Dc.fit_iff 0 255 k).1 e
  rw [mD, if_pos e2, show (k % 256).toNat = k.toNat by omega]
theorem T.half {s t : S} (h : T s t) (k : Int) : T (numD 2 k s) (halfS k t) := by
  refine h.num (fitB 0 65535 k) _ _ (by rw [Pl.le_length, Pl.le_length]) (fun e => ?_)
  have e2 : fitD 2 k = true := e
  have e3 := (Dc.fit_iff 0 65535 k).1 e
  rw [mD, if_pos e2, show (k % 65536).toNat = k.toNat by omega]
theorem T.word {s t : S} (h : T s t) (k : Int) : T (numD 4 k s) (wordS k t) := by
  refine h.num (fitB 0 4294967295 k) _ _ (by rw [Pl.le_length, Pl.le_length]) (fun e => ?_)
  have e2 : fitD 4 k = true := e
  have e3 := (Dc.fit_iff 0 4294967295 k).1 e
  rw [mD, if_pos e2, show (k % 4294967296).toNat = k.toNat by omega]
theorem T.none {s t : S} (h : T s t) (k : Int) : T (Ek.noneD k s) (noneS k t) := by
  have hb : fitD 2 (if k = -1 then 65535 else if 65534 < k then -1 else k) = noneB k := by
    unfold fitD noneB
    rw [show (gN 2 : Int) = 65535 from rfl]
    by_cases h1 : k = -1
    · subst h1; rfl
    · rw [if_neg h1]
      by_cases h2 : 65534 < k
      · rw [if_pos h2]
        simp
        omega
      · rw [if_neg h2, Bool.eq_iff_iff]
        simp
        omega
  have := h.num (noneB k) (Pl.le 2 (mD 2 (if k = -1 then 65535 else if 65534 < k then -1 else k))) (Pl.le 2 (k % 65536).toNat) (by rw [Pl.le_length, Pl.le_length]) (fun e => by
    rw [mD, if_pos (hb.trans e)]
    unfold noneB at e
    simp only [Bool.and_eq_true, decide_eq_true_eq] at e
    by_cases h1 : k = -1
    · subst h1; rfl
    · rw [if_neg h1, if_neg (by omega), show (k % 65536).toNat = k.toNat by omega])
  rw [← hb] at this
  unfold Ek.noneD numD noneS
  rw [← hb]
  exact this
theorem T.flag {s t : S} (h : T s t) (b : Bool) : T (Ek.flagD b s) (flagS b t) := h.byte _
theorem T.many {s t : S} (h : T s t) (n : Nat) : T (manyD n s) (manyS n t) := (h.half _).zeros 6
theorem T.ask {s t : S} (h : T s t) (b : Bool) : T s (askS b 3 t) := by
  unfold askS askF
  by_cases hb : b = false ∧ t.2 ≠ 132
  · rw [if_pos hb]
    exact ⟨h.len, .inr (.inl rfl), by rw [h.no, if_neg hb.2]; rfl, fun _ => h.bs hb.2⟩
  · rw [if_neg hb]
    exact h
theorem T.each {α : Type} {f g : α → S → S} (hf : ∀ x s t, T s t → T (f x s) (g x t)) : ∀ (xs : List α) (s t : S), T s t → T (eachS f xs s) (eachS g xs t)
  | [], _, _, h => h
  | x :: xs, s, t, h => T.each hf xs _ _ (hf x s t h)
theorem T.range {s t : S} (h : T s t) (x : Rg) : T (rangeS x s) (rangeS x t) := (h.long _).long _
theorem T.ten {s t : S} (h : T s t) (x : Tn) : T (Ek.tenD x s) (tenS x t) := (((((h.byte _).flag _).byte _).byte _).none _).none _
theorem T.port {s t : S} (h : T s t) (x : Int) : T (Ek.portD x s) (portS x t) := (h.none _).zeros 6
theorem T.ch {s t : S} (h : T s t) (x : Lk) : T (Ek.chD x s) (chS x t) := (((((h.field _).none _).none _).byte _).byte _).zeros 2
theorem T.iq {s t : S} (h : T s t) (x : Lk) : T (Ek.iqD x s) (iqS x t) := (((((h.field _).none _).none _).byte _).flag _).zeros 2
theorem T.st {s t : S} (h : T s t) (x : Int × Int) : T (Ek.stD x s) (stS x t) := ((h.none _).zeros 2).word _
theorem T.lane {s t : S} (h : T s t) (x : List (Int × Int)) : T (Ek.laneD x s) (laneS x t) := T.each (fun x s t h => h.st x) x _ _ (h.many _)
theorem T.plan {s t : S} (h : T s t) (n : Nat) (x : Sc) : T (Ek.planD n x s) (planS n x t) := T.each (fun x s t h => h.lane x) x.lanes _ _ (((h.field _).word _).zeros 4)
theorem T.tab {s t : S} (h : T s t) (f : Nat → Nat) : T (tabS f s) (tabS f t) := h.bytes _
theorem T.gd {s t : S} (h : T s t) (h8 : t.1.length % 8 = 0) (x : Gd) : T (Ek.gdD x s) (gdS x t) ∧ (gdS x t).1.length % 8 = 0 := by
  have h1 : T (bytesS (sb x.txt) (numD 4 (x.txt.size : Int) (zerosS 3 (numD 1 (x.fill : Int) (longS x.sz (longS x.ad s)))))) (bytesS (bts x.txt) (wordS (x.txt.size : Int) (askS (decide (x.txt.size ≤ 1048576)) 3 (zerosS 3 (byteS (x.fill : Int) (longS x.sz (longS x.ad t))))))) := (((((h.long _).long _).byte _).zeros 3 |>.ask _).word _).bytes (bts x.txt)
  have hl : (bytesS (bts x.txt) (wordS (x.txt.size : Int) (askS (decide (x.txt.size ≤ 1048576)) 3 (zerosS 3 (byteS (x.fill : Int) (longS x.sz (longS x.ad t))))))).1.length = t.1.length + 24 + x.txt.size := by
    rw [bytes_len, word_len, ask_len, zeros_len, byte_len, long_len, long_len, bts_len]
  have hp : (8 - x.txt.size % 8) % 8 = Bn.upN (t.1.length + 24 + x.txt.size) 8 - (t.1.length + 24 + x.txt.size) := by
    unfold Bn.upN
    split <;> omega
  refine ⟨?_, ?_⟩
  · rw [Ek.gdD, gdS, textS, padS, hl, hp]
    exact h1.zeros _
  · rw [gdS, textS, pad_len, hl]
    unfold Bn.upN
    split <;> omega
theorem T.gds : ∀ (xs : List Gd) (s t : S), T s t → t.1.length % 8 = 0 → T (eachS Ek.gdD xs s) (eachS gdS xs t)
  | [], _, _, h, _ => h
  | x :: xs, s, t, h, h8 => T.gds xs _ _ (h.gd h8 x).1 (h.gd h8 x).2
theorem each_app {α : Type} (f : α → S → S) : ∀ (xs ys : List α) (s : S), eachS f (xs ++ ys) s = eachS f ys (eachS f xs s)
  | [], _, _ => rfl
  | x :: xs, ys, s => each_app f xs ys (f x s)
theorem part_sim (I : Im) {j : Nat} (hj : j < 8) (ht : j < 7 ∨ I.tabs.length ≤ 1024) : T (pS I j) (secS I (j + 1) ([], 0)) := by
  match j, hj with
  | 0, _ =>
    show T _ (busS I ([], 0))
    rw [pS, busS, each_app]
    exact T.each (fun x s t h => h.range x) _ _ _ (T.each (fun x s t h => h.range x) _ _ _ (((T.start.half _).half _).zeros 4))
  | 1, _ => exact T.each (fun x s t h => h.ten x) _ _ _ (T.start.many _)
  | 2, _ => exact T.each (fun x s t h => h.port x) _ _ _ ((T.start.field _).many _)
  | 3, _ => exact T.gds _ _ _ (T.start.many _) (by rw [many_len]; rfl)
  | 4, _ => exact T.each (fun x s t h => h.ch x) _ _ _ (T.start.many _)
  | 5, _ => exact T.each (fun x s t h => h.iq x) _ _ _ (T.start.many _)
  | 6, _ =>
    show T _ (plansS I ([], 0))
    rw [pS, plansS, lanesN_eq]
    exact T.each (fun x s t h => h.plan _ x) _ _ _ ((((T.start.half _).half _).none _).half _)
  | 7, _ =>
    show T (eachS tabS (fewD I) ([], 0)) (tabsS I ([], 0))
    rw [fewD, if_neg (by omega), tabsS]
    exact T.each (fun x s t h => h.tab x) _ _ _ T.start
end Go.Proofs.YtmfkggngjeolcaaGreatDoor
