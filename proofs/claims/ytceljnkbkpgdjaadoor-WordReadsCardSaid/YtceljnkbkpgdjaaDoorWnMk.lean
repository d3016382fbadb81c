/- WordNumbers: a row that is made with room behind it. Own work. -/
import Derived.Test.YtceljnkbkpgdjaaDoorWnRef2
namespace Go.Proofs.YtceljnkbkpgdjaaDoor
open Go.RowKit
theorem own_of_row {w : World} {g base n c : Nat} {L p : List Nat} (h : Row w g L) (hb : base ≤ g) (hL : L.length = c) (hn : p.length = n) (hc : n ≤ c) (hm : c ≤ maxLen) (ht : L.take n = p) : Own w base (.slice (some ⟨g, 0, none⟩) n c) p := by
  subst hn
  refine ⟨by rw [bvs_length, Nat.mul_one], .inr ⟨g, c, (bvs L).toArray, rfl, hb, h, hc, hm, ?_, ?_⟩⟩
  · simp [bvs_length, hL]
  · rw [Nat.mul_one]
    show (bvs L).take p.length = bvs p
    rw [← ht]
    simp [bvs]
theorem wpList_makeP (w : World) {ops : Array Oper} {rest : List Oper} {o : Oper} {a : Act} {Q : Exit → Act → World → Prop}
    (hg : o.guard = none) (l c : Operand) (hop : o.op = Op.makeSlice 34 l c)
    (kl kc : IntKind) (L C : Int) (n m : Nat) (hl : a.eval l = .int kl L) (hc : a.eval c = .int kc C) (hL : L = (n : Int)) (hC : C = (m : Int)) (hnm : n ≤ m) (b : m ≤ 281474976710656)
    (hK : ∀ w', Hid (Row w' w.heap.size (List.replicate m 0)) → Hid (w.grownBy w' none) → wpList Tryd.prog ops Q rest (a.put o.dst (.slice (some ⟨w.heap.size, 0, none⟩) n m)) w') :
    wpList Tryd.prog ops Q (o :: rest) a w := by
  obtain ⟨i, hi, hz0, hz1, hz2⟩ := info_parts info_byte
  refine wpList_plain hg fun K hK' => ?_
  subst hL
  subst hC
  have hrun := run_make (P := Tryd.prog) w 34 5 i (.int .u8 0) Tryd.underlying34 hi hz0 kl kc (n : Int) (m : Int) (by omega) (by omega) (by rw [hz2]; omega) (by omega)
  simp only [Int.toNat_natCast, hz1, Nat.mul_one] at hrun
  have hrow : Row (w.alloc (.cells (madeCells (Value.int .u8 0).cells m) 5)) w.heap.size (List.replicate m 0) := by
    have e : madeCells (Value.int .u8 0).cells m = (bvs (List.replicate m 0)).toArray := by
      apply Array.toList_inj.1
      show (madeCells #[Value.int .u8 0] m).toList = _
      rw [toList_madeCells_one]
      simp [bvs]
    rw [e]
    exact Array.getElem?_push_size
  unfold Oper.wp
  simp [execOp, hop, hl, hc, hrun, Result.andThen]
  exact hK' _ _ (hK _ hrow (World.grownBy_alloc w _ none))
end Go.Proofs.YtceljnkbkpgdjaaDoor
