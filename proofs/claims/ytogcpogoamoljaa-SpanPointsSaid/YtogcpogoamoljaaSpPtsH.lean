/- SpanPoints: where the law stands. Own work. -/
import Derived.Test.YtogcpogoamoljaaSpStepP
import Derived.Deep.DeepCutAuto
import Derived.Deep.CutBlock
namespace Go.Proofs.Ytogcpogoamoljaa
open Go.RowKit Go.Shelf Go.Proofs.Ytogcpogoamoljaa.Sp Go.Proofs.Ytogcpogoamoljaa.U8
/-- one of the operations that may come next: a new value -/
theorem readyNew {P : Program} {md : Region.Mode} {ops : Array Oper} {Q : Exit → Act → World → Prop} {S : World → Prop} {i d : Nat} {o : Oper} {fuel : Nat} {listed : Array Bool} {a : Act} {w w' : World} {rs : List Nat} (hi : ops[i]? = some o) (hd : o.dst = some d) (hw : Region.wanted o (yielded ops a.tmps) = true) (v : Value) (hv : (execOp a.eval o).run P w = .ok (.value v) w') (hS : S w')
    (hK : S w' → wpAnyH P md ops Q S fuel (listed.setIfInBounds i true) (a.put (some d) v) w') (hs : AllReadyH P md ops Q S fuel listed a w rs) : AllReadyH P md ops Q S fuel listed a w (i :: rs) := by
  rw [← hd] at hK
  refine AllReadyH.cons hi (fun K hK' => ?_) hs
  rw [if_pos hw]
  unfold Oper.wp
  rw [hv, Oper.upon_value]
  exact hK'.out _ _ hS hK
theorem Pts.mark {f : Nat → Bool} {xs xs2 : List Sp} (h : Pts f xs) {a b : Nat} {on : Bool} (h2 : ∀ q : Nat, q < 256 → (In q xs2 ↔ if a ≤ q ∧ q ≤ b then on = true else In q xs)) : Pts (markF f a b on) xs2 := fun q hq => by
  simp only [markF]
  rw [h2 q hq]
  by_cases e : a ≤ q ∧ q ≤ b
  · rw [if_pos e, if_pos e]
  · rw [if_neg e, if_neg e]
    exact h q hq
/-- With, where the law stands -/
theorem withP {W : World} {v : Value} {xs : List Sp} {a b : Int} (hv : SV W v xs) (hc : Canon 255 xs) (ha : 0 ≤ a ∧ a ≤ 255) (hb : 0 ≤ b ∧ b ≤ 255) :
    Calls Try.prog 5 #[.agg #[v], .agg #[.int .u8 a, .int .u8 b]] W fun e w2 => ∃ u, e = .returned u ∧ ∃ ao n c xs2, u = .agg #[.slice ao n c] ∧ Own w2 W.heap.size (.slice ao n c) xs2 ∧ Canon 255 xs2 ∧ (∀ q, In q xs2 ↔ In q xs ∨ (a ≤ q ∧ q ≤ b)) ∧ Below W.heap.size W w2 := by
  have hlen := canon_length hc (by omega)
  refine (with_any (x := (a, b)) hv hc (by omega) (fun x hx => by obtain rfl := List.mem_singleton.1 hx; exact ⟨ha.1, ha.2, hb.1, hb.2⟩)).mono ?_
  rintro e w2 ⟨v2, rs, rfl, ho, ⟨ts, hts, hm⟩, hbw⟩
  obtain ⟨ao, cap, rfl, _⟩ := ho.sv
  exact ⟨_, rfl, ao, _, cap, rs, rfl, ho, hm.1, fun q => by rw [hm.or hc hts.1 q, hts.2.1 q, in_one], hbw⟩
theorem cell_at {w : World} {b : Nat} {v : Value} {t : TypeId} (h : w.heap[b]? = some (.cells #[v] t (0, 0))) : w.cell? ⟨b, 0, none⟩ = some v := by
  rw [cell_of_row _ _ 0 _ _ _ h]; rfl
theorem rowS_one (w : World) {base : Nat} (hb : base ≤ w.heap.size) (v : Value) (e : List Sp × (Nat → Bool)) : RowS (w.alloc (.cells #[v] 25)) base (.slice (some ⟨w.heap.size, 0, none⟩) 1 1) [⟨v, e.1, e.2⟩] :=
  ⟨rfl, .inr ⟨w.heap.size, 1, #[v], rfl, hb, heap_alloc_new w _, Nat.le_refl _, by unfold maxLen; omega, rfl, rfl⟩⟩
theorem rowI_one (w : World) {base : Nat} (hb : base ≤ w.heap.size) (f : Nat → Bool) (e : Value × List Sp) : RowI (w.alloc (.cells (ptsV f) 33)) base (.slice (some ⟨w.heap.size, 0, none⟩) 1 1) [⟨e.1, e.2, f⟩] :=
  ⟨by rw [flat_length], .inr ⟨w.heap.size, 1, ptsV f, rfl, hb, heap_alloc_new w _, Nat.le_refl _, by unfold maxLen; omega, by rw [ptsV_size], by
    rw [show flat [(⟨e.1, e.2, f⟩ : Ent)] = (ptsV f).toList by simp [flat]]
    exact List.take_of_length_le (by rw [Array.length_toList, ptsV_size]; simp)⟩⟩
/-- the law in a round: the step, the set, the points -/
def Rd (wr W : World) (st : PStep) (v : Value) (f : Nat → Bool) : Prop :=
  W.heap[wr.heap.size]? = some (.cells #[.int .i64 st.kind, .int .i64 st.a, .int .i64 st.b, .int .u64 st.x, .int .u64 st.y, st.l] 39 (0, 0)) ∧ W.heap[wr.heap.size + 1]? = some (.cells #[v] 25 (0, 0)) ∧ PtsAt W (wr.heap.size + 1 + 1) f ∧ Below wr.heap.size wr W
theorem Rd.off {wr W : World} {st : PStep} {v : Value} {f : Nat → Bool} (h : Rd wr W st v f) : wr.heap.size + 3 ≤ W.heap.size := h.2.2.1.lt
theorem Rd.below {wr W W' : World} {st : PStep} {v : Value} {f : Nat → Bool} (h : Rd wr W st v f) (hb : Below W.heap.size W W') : Rd wr W' st v f :=
  ⟨(hb.block _ (by have := h.off; omega)).trans h.1, (hb.block _ (by have := h.off; omega)).trans h.2.1, h.2.2.1.below hb h.2.2.1.lt, h.2.2.2.trans (hb.mono (by have := h.off; omega))⟩
theorem Rd.field {wr W : World} {st : PStep} {v : Value} {f : Nat → Bool} (h : Rd wr W st v f) : W.cell? ⟨wr.heap.size, 0, none⟩ = some (.int .i64 st.kind) ∧ W.cell? ⟨wr.heap.size, 1, none⟩ = some (.int .i64 st.a) ∧ W.cell? ⟨wr.heap.size, 2, none⟩ = some (.int .i64 st.b) ∧ W.cell? ⟨wr.heap.size, 3, none⟩ = some (.int .u64 st.x) ∧ W.cell? ⟨wr.heap.size, 4, none⟩ = some (.int .u64 st.y) :=
  ⟨by rw [cell_of_row _ _ 0 _ _ _ h.1]; rfl, by rw [cell_of_row _ _ 1 _ _ _ h.1]; rfl, by rw [cell_of_row _ _ 2 _ _ _ h.1]; rfl, by rw [cell_of_row _ _ 3 _ _ _ h.1]; rfl, by rw [cell_of_row _ _ 4 _ _ _ h.1]; rfl⟩
theorem Rd.box {wr W : World} {st : PStep} {v : Value} {f : Nat → Bool} (h : Rd wr W st v f) : W.cell? ⟨wr.heap.size + 1, 0, none⟩ = some v ∧ W.frozen? ⟨wr.heap.size + 1, 0, none⟩ = false := by
  refine ⟨cell_at h.2.1, ?_⟩
  have := h.2.1
  simp [World.frozen?, this]
theorem Rd.putS {wr W : World} {st : PStep} {v : Value} {f : Nat → Bool} (h : Rd wr W st v f) (v' : Value) : Rd wr (W.setCell ⟨wr.heap.size + 1, 0, none⟩ v') st v' f := by
  refine ⟨(Below.heap_setCell _ _ _ _ (by show wr.heap.size ≠ wr.heap.size + 1; omega)).trans h.1, ?_, h.2.2.1.other (by omega), h.2.2.2.setCell (p := ⟨wr.heap.size + 1, 0, none⟩) (by show wr.heap.size ≤ wr.heap.size + 1; omega) _⟩
  have := h.2.1
  simp [World.setCell, Array.getElem?_modify, this]
theorem setRow_block {w : World} {b c : Nat} (hc : b ≠ c) (d : Array Value) : (w.setRow c d).heap[b]? = w.heap[b]? := by
  simp only [World.setRow, Array.getElem?_modify]
  rw [if_neg (fun h => hc h.symm)]
theorem Rd.putT {wr W : World} {st : PStep} {v : Value} {f : Nat → Bool} (h : Rd wr W st v f) (g : Nat → Bool) : Rd wr (W.setRow (wr.heap.size + 1 + 1) (ptsV g)) st v g :=
  ⟨(setRow_block (by omega) _).trans h.1, (setRow_block (by omega) _).trans h.2.1, h.2.2.1.setRow g, h.2.2.2.trans (below_setRow _ _ _ _ (by omega))⟩
theorem own_row {w : World} {base c : Nat} {v : Value} {xs : List Sp} (h : Own w base v xs) (hc : c < base) (d : Array Value) : Own (w.setRow c d) base v xs := by
  refine ⟨h.1, ?_⟩
  rcases h.2 with h0 | ⟨g, cap, cur, e, hb, hg, r⟩
  · exact .inl h0
  · exact .inr ⟨g, cap, cur, e, hb, (setRow_block (by omega) d).trans hg, r⟩
theorem Rd.start {wr : World} (st : PStep) (v : Value) (f : Nat → Bool) : Rd wr (((wr.alloc (.cells #[.int .i64 st.kind, .int .i64 st.a, .int .i64 st.b, .int .u64 st.x, .int .u64 st.y, st.l] 39)).alloc (.cells #[v] 25)).alloc (.cells (ptsV f) 33)) st v f := by
  refine ⟨?_, ?_, ?_, (((Below.refl _ _).alloc (Nat.le_refl _) _).alloc (by simp) _).alloc (by simp; omega) _⟩
  · exact (Below.heap_alloc _ _ _ (by simp; omega)).trans ((Below.heap_alloc _ _ _ (by simp)).trans (heap_alloc_new wr _))
  · refine (Below.heap_alloc _ _ _ (by simp)).trans ?_
    have := heap_alloc_new (wr.alloc (.cells #[.int .i64 st.kind, .int .i64 st.a, .int .i64 st.b, .int .u64 st.x, .int .u64 st.y, st.l] 39)) (.cells #[v] 25)
    simpa using this
  · have := PtsAt.new ((wr.alloc (.cells #[.int .i64 st.kind, .int .i64 st.a, .int .i64 st.b, .int .u64 st.x, .int .u64 st.y, st.l] 39)).alloc (.cells #[v] 25)) f
    simpa using this
/-- a set that a call made -/
def MadeBy (W : World) (R : Int → Prop) (u : Value) (w2 : World) : Prop := ∃ ao n c xs2, u = .agg #[.slice ao n c] ∧ Own w2 W.heap.size (.slice ao n c) xs2 ∧ Canon 255 xs2 ∧ (∀ q, In q xs2 ↔ R q) ∧ Below W.heap.size W w2
theorem fits_one {a b : Int} (ha : 0 ≤ a ∧ a ≤ 255) (hb : 0 ≤ b ∧ b ≤ 255) : Fits 255 [(a, b)] := fun x hx => by obtain rfl := List.mem_singleton.1 hx; exact ⟨ha.1, ha.2, hb.1, hb.2⟩
theorem wiP {W : World} {v : Value} {xs : List Sp} {a b : Int} (hv : SV W v xs) (hc : Canon 255 xs) (ha : 0 ≤ a ∧ a ≤ 255) (hb : 0 ≤ b ∧ b ≤ 255) :
    Calls Try.prog 5 #[.agg #[v], .agg #[.int .u8 a, .int .u8 b]] W fun e w2 => ∃ u, e = .returned u ∧ MadeBy W (fun q => In q xs ∨ (a ≤ q ∧ q ≤ b)) u w2 :=
  (withP hv hc ha hb).mono fun _ _ h => h
theorem woP {W : World} {v : Value} {xs : List Sp} {a b : Int} (hv : SV W v xs) (hc : Canon 255 xs) (ha : 0 ≤ a ∧ a ≤ 255) (hb : 0 ≤ b ∧ b ≤ 255) :
    Calls Try.prog 10 #[.agg #[v], .agg #[.int .u8 a, .int .u8 b]] W fun e w2 => ∃ u, e = .returned u ∧ MadeBy W (fun q => In q xs ∧ ¬ (a ≤ q ∧ q ≤ b)) u w2 := by
  have hlen := canon_length hc (by omega)
  refine (without_any (x := (a, b)) hv hc (by omega) (fits_one ha hb)).mono ?_
  rintro e w2 ⟨v2, rs, rfl, ho, ⟨ts, hts, hm⟩, hbw⟩
  obtain ⟨ao, cap, rfl, _⟩ := ho.sv
  exact ⟨_, rfl, ao, _, cap, rs, rfl, ho, hm.1, fun q => by rw [hm.less hc q, hts.2.1 q, in_one], hbw⟩
theorem orP {W : World} {v u : Value} {xs ys : List Sp} (hv : SV W v xs) (hc : Canon 255 xs) (hu : SV W u ys) (hd : Canon 255 ys) :
    Calls Try.prog 11 #[.agg #[v], .agg #[u]] W fun e w2 => ∃ u, e = .returned u ∧ MadeBy W (fun q => In q xs ∨ In q ys) u w2 := by
  have h1 := canon_length hc (by omega)
  have h2 := canon_length hd (by omega)
  refine (or_any hv hu hc hd (by omega)).mono ?_
  rintro e w2 ⟨v2, rs, rfl, ho, hm, hbw⟩
  obtain ⟨ao, cap, rfl, _⟩ := ho.sv
  exact ⟨_, rfl, ao, _, cap, rs, rfl, ho, hm.1, fun q => hm.or hc hd q, hbw⟩
theorem meetP {W : World} {v u : Value} {xs ys : List Sp} (hv : SV W v xs) (hc : Canon 255 xs) (hu : SV W u ys) (hd : Canon 255 ys) :
    Calls Try.prog 13 #[.agg #[v], .agg #[u]] W fun e w2 => ∃ u, e = .returned u ∧ MadeBy W (fun q => In q xs ∧ In q ys) u w2 := by
  have h1 := canon_length hc (by omega)
  have h2 := canon_length hd (by omega)
  refine (meet_any hv hu hc hd (by omega)).mono ?_
  rintro e w2 ⟨v2, rs, rfl, ho, hm, hbw⟩
  obtain ⟨ao, cap, rfl, _⟩ := ho.sv
  exact ⟨_, rfl, ao, _, cap, rs, rfl, ho, hm.1, fun q => hm.meet hc q, hbw⟩
theorem lessP {W : World} {v u : Value} {xs ys : List Sp} (hv : SV W v xs) (hc : Canon 255 xs) (hu : SV W u ys) (hd : Canon 255 ys) :
    Calls Try.prog 14 #[.agg #[v], .agg #[u]] W fun e w2 => ∃ u, e = .returned u ∧ MadeBy W (fun q => In q xs ∧ ¬ In q ys) u w2 := by
  have h1 := canon_length hc (by omega)
  have h2 := canon_length hd (by omega)
  refine (less_any hv hu hc hd (by omega)).mono ?_
  rintro e w2 ⟨v2, rs, rfl, ho, hm, hbw⟩
  obtain ⟨ao, cap, rfl, _⟩ := ho.sv
  exact ⟨_, rfl, ao, _, cap, rs, rfl, ho, hm.1, fun q => hm.less hc q, hbw⟩
/-- behind a call that made a set, stored into the round's box -/
def Rs (wr W : World) (st : PStep) (f : Nat → Bool) (R : Int → Prop) : Prop := ∃ ao n c xs2, Rd wr W st (.slice ao n c) f ∧ Own W (wr.heap.size + 3) (.slice ao n c) xs2 ∧ Canon 255 xs2 ∧ ∀ q, In q xs2 ↔ R q
theorem Rs.of {wr W w2 : World} {st : PStep} {v : Value} {f : Nat → Bool} {R : Int → Prop} {ao : Option Addr} {n c : Nat} {xs2 : List Sp} (h : Rd wr W st v f) (ho : Own w2 W.heap.size (.slice ao n c) xs2) (hc : Canon 255 xs2) (hi : ∀ q, In q xs2 ↔ R q) (hb : Below W.heap.size W w2) : Rs wr (w2.setCell ⟨wr.heap.size + 1, 0, none⟩ (.slice ao n c)) st f R :=
  ⟨ao, n, c, xs2, (h.below hb).putS _, (ho.low (by have := h.off; omega) _ _).lower h.off, hc, hi⟩
/-- what the switch leaves -/
def Rz (w wr W : World) (st : PStep) : Prop := ∃ ao n c xs f, Rd wr W st (.slice ao n c) f ∧ Own W w.heap.size (.slice ao n c) xs ∧ Canon 255 xs ∧ Pts f xs
theorem Rz.of {w wr W : World} {st : PStep} {f g : Nat → Bool} {ao : Option Addr} {n c : Nat} {xs : List Sp} (hw : w.heap.size ≤ wr.heap.size) (h : Rd wr W st (.slice ao n c) f) (ho : Own W (wr.heap.size + 3) (.slice ao n c) xs) (hc : Canon 255 xs) (hp : Pts g xs) : Rz w wr (W.setRow (wr.heap.size + 1 + 1) (ptsV g)) st :=
  ⟨ao, n, c, xs, g, h.putT g, (own_row ho (by omega) _).lower (by omega), hc, hp⟩
theorem eqPts_exec {o : Oper} {a : Act} {w : World} {x y : Operand} (ho : o.op = .binOp .eql 33 x y 33) {f g : Nat → Bool} (hx : a.eval x = .agg (ptsV f)) (hy : a.eval y = .agg (ptsV g)) : (execOp a.eval o).run Try.prog w = .ok (.value (.bool (allF f g))) w := by
  have hm : Try.prog.eqGuardType Try.prog.depth 33 = false := by kernel_rfl
  unfold execOp
  simp only [ho, hx, hy, Sem.run_bind, run_eqGuard_agg w .eql 33 x y (ptsV f) (ptsV g) hm, Result.andThen_ok, run_eql_struct, pts_equal, Sem.run_pure]
theorem same_pts {xs ys : List Sp} {f g : Nat → Bool} (hx : Canon 255 xs) (hy : Canon 255 ys) (hf : Pts f xs) (hg : Pts g ys) : decide (xs = ys) = allF f g := by
  by_cases e : xs = ys
  · subst e
    rw [decide_eq_true rfl, (allF_iff f g).2 (fun i hi => by
      have h1 := hf i hi
      have h2 := hg i hi
      cases a : f i <;> cases b : g i <;> simp_all)]
  · rw [decide_eq_false e]
    cases h : allF f g with
    | false => rfl
    | true =>
      refine absurd (canon_ext hx hy (fun p => ?_)) e
      have ha := (allF_iff f g).1 h
      constructor
      · intro k
        have hb := hx.bounds k
        obtain ⟨q, rfl⟩ : ∃ q : Nat, p = (q : Int) := ⟨p.toNat, by omega⟩
        exact (hg q (by omega)).1 ((ha q (by omega)) ▸ (hf q (by omega)).2 k)
      · intro k
        have hb := hy.bounds k
        obtain ⟨q, rfl⟩ : ∃ q : Nat, p = (q : Int) := ⟨p.toNat, by omega⟩
        exact (hf q (by omega)).1 ((ha q (by omega)).symm ▸ (hg q (by omega)).2 k)
theorem PS.pushS {w W w' : World} {vs vi : Value} {L : List Ent} {e : Ent} (h : PS w W vs vi L) (hg : Good W w.heap.size e) (hgr : W.grownBy w' vs.ownBlock) : RowI w' w.heap.size vi L ∧ (∀ x ∈ L ++ [e], Good w' w.heap.size x) ∧ Below w.heap.size w w' := by
  refine ⟨owns_grown h.2.1 hgr (owns_tag h.1) (by decide), fun x hx => ?_, below_grown h.2.2.2 h.1 hgr⟩
  rcases List.mem_append.1 hx with k | k
  · exact (h.2.2.1 x k).grown hgr (owns_tag h.1) (by decide)
  · obtain rfl := List.mem_singleton.1 k
    exact hg.grown hgr (owns_tag h.1) (by decide)
theorem PS.pushI {w W w' : World} {vs vi vi' : Value} {L M : List Ent} (hS : RowS W w.heap.size vs M) (hI : RowI W w.heap.size vi L) (hG : ∀ x ∈ M, Good W w.heap.size x) (hb : Below w.heap.size w W) (hI' : RowI w' w.heap.size vi' M) (hgr : W.grownBy w' vi.ownBlock) : PS w w' vs vi' M :=
  ⟨owns_grown hS hgr (owns_tag hI) (by decide), hI', fun x hx => (hG x hx).grown hgr (owns_tag hI) (by decide), below_grown hb hI hgr⟩
theorem Pts.or {f g : Nat → Bool} {xs ys zs : List Sp} (hf : Pts f xs) (hg : Pts g ys) (h : ∀ q, In q zs ↔ In q xs ∨ In q ys) : Pts (fun q => f q || g q) zs := fun q hq => by
  rw [h, ← hf q hq, ← hg q hq, Bool.or_eq_true]
theorem Pts.meet {f g : Nat → Bool} {xs ys zs : List Sp} (hf : Pts f xs) (hg : Pts g ys) (h : ∀ q, In q zs ↔ In q xs ∧ In q ys) : Pts (fun q => f q && g q) zs := fun q hq => by
  rw [h, ← hf q hq, ← hg q hq, Bool.and_eq_true]
theorem Pts.less {f g : Nat → Bool} {xs ys zs : List Sp} (hf : Pts f xs) (hg : Pts g ys) (h : ∀ q, In q zs ↔ In q xs ∧ ¬ In q ys) : Pts (fun q => f q && !g q) zs := fun q hq => by
  rw [h, ← hf q hq, ← hg q hq, Bool.and_eq_true, Bool.not_eq_true']
  simp
end Go.Proofs.Ytogcpogoamoljaa
