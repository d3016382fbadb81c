/- The parser made. Own work. -/
import Derived.Test.YtmkibolkcjallaaGreatDoorSyPol
import Derived.Test.YtmkibolkcjallaaGreatDoorSyAt
import Derived.Deep.WholeRow
import Derived.Defers
import Derived.Recover
namespace Go.Proofs.YtmkibolkcjallaaGreatDoor
open Go.RowKit Sc
/-- the parser at the beginning -/
def par0 (src list : Value) (n : Int) : Par := ⟨src, list, n, true, 0, 0, ⟨#[]⟩, 0, 0, .slice none 0 0, false, 0, 0, 0, 0, ⟨#[]⟩, 0, .slice none 0 0, .slice none 0 0, .slice none 0 0, .slice none 0 0⟩
theorem build_parser (a b : Option Addr) (n m c d : Nat) (k : Int) (w : World) : (Instr.build 52 #[(0, .agg (aheadA (.slice a n c) (.slice b m d) k true))]).run Tryz.prog w = .ok (.agg (par0 (.slice a n c) (.slice b m d) k).cells) w := by kernel_rfl
theorem info_parser : (Tryz.prog.info? 52).map (·.size) = some 21 := by kernel_rfl
theorem wpList_buildP {ops : Array Oper} {rest : List Oper} {o : Oper} {ac : Act} {w : World} {Q : Exit → Act → World → Prop} (hgd : o.guard = none) (x : Operand) (ho : o.op = .build 52 #[(0, x)]) {a b : Option Addr} {n m c d : Nat} {k : Int} (hx : ac.eval x = .agg (aheadA (.slice a n c) (.slice b m d) k true)) (hk : wpList Tryz.prog ops Q rest (ac.put o.dst (.agg (par0 (.slice a n c) (.slice b m d) k).cells)) w) : wpList Tryz.prog ops Q (o :: rest) ac w :=
  wpList_plain hgd fun K hK => by
    unfold Oper.wp execOp
    simp only [ho, List.map_toArray, List.map_cons, List.map_nil, hx, Sem.run_bind, Sem.run_pure, build_parser, Result.andThen_ok]
    exact hK _ _ hk
theorem wpList_storeP {ops : Array Oper} {rest : List Oper} {o : Oper} {ac : Act} {w : World} {z : Array Value} {Q : Exit → Act → World → Prop} (hgd : o.guard = none) (hd : o.dst = none) (x y : Operand) (ho : o.op = .store 52 x y) {a b : Option Addr} {n m c d : Nat} {k : Int} (hx : ac.eval x = .pointer (some ⟨w.heap.size, 0, none⟩)) (hy : ac.eval y = .agg (par0 (.slice a n c) (.slice b m d) k).cells) (hz : z.size = 21) (hk : wpList Tryz.prog ops Q rest ac (w.alloc (.cells (par0 (.slice a n c) (.slice b m d) k).cells 52))) : wpList Tryz.prog ops Q (o :: rest) ac (w.alloc (.cells z 52)) :=
  wpList_plain hgd fun K hK => by
    have hr := run_storeAt_new (P := Tryz.prog) w 52 z (par0 (.slice a n c) (.slice b m d) k).cells (by rw [info_parser]; rfl) (by rw [hz]; rfl) (by kernel_rfl)
    unfold Oper.wp execOp
    simp only [ho, hx, hy, Sem.run_bind, Sem.run_pure, Result.andThen_ok, hr]
    rw [Oper.upon_skip, hd]
    exact hK _ _ hk
end Go.Proofs.YtmkibolkcjallaaGreatDoor
