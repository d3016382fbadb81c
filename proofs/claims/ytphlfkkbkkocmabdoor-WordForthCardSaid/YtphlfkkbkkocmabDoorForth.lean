/- forth: what a row of calls takes whole is laid to the same bytes. -/
import Derived.Test.YtphlfkkbkkocmabDoorOpForth
namespace Go.Proofs.YtphlfkkbkkocmabDoor
open Go.RowKit
theorem own_ge {w : World} {base : Nat} {v : Value} {xs : List Nat} (h : Own w base v xs) {k : Nat} (hk : v.ownBlock = some k) : base ≤ k := by
  rcases h.2 with hv | ⟨g, cap, cur, rfl, hb, hgg, rest⟩
  · rcases hv with ⟨rfl, _⟩; cases hk
  · cases hk; exact hb
theorem Scr.at {w wr : World} {ao : Option Addr} {n cap : Nat} {os : List OpV} (h : Scr w (.slice ao n cap) os) (hb : Below w.heap.size w wr) (k : Nat) (hk : k < os.length) : ∃ b o op, ao = some ⟨b, o, none⟩ ∧ op = os[k] ∧ Sl wr op.pv op.ps ∧ op.n < 18446744073709551616 ∧
    wr.cell? ⟨b, o + k * 6, none⟩ = some (.int .i64 op.kind) ∧ wr.cell? ⟨b, o + k * 6 + 1, none⟩ = some (.int .i64 op.pos) ∧ wr.cell? ⟨b, o + k * 6 + 2, none⟩ = some (.int .u64 (op.n : Int)) ∧
    wr.cell? ⟨b, o + k * 6 + 3, none⟩ = some (.int .i64 op.num) ∧ wr.cell? ⟨b, o + k * 6 + 4, none⟩ = some op.pv ∧ wr.cell? ⟨b, o + k * 6 + 5, none⟩ = some (.string op.s) := by
  obtain ⟨ao', cap', e, _, _, h⟩ := h
  cases e
  obtain ⟨b, o, e, h1, h2, c0, c1, c2, c3, c4, c5⟩ := h k hk
  have hc : ∀ {i : Nat} {v : Value}, w.cell? ⟨b, i, none⟩ = some v → wr.cell? ⟨b, i, none⟩ = some v := fun {i v} hx => by
    rw [hb.cell (p := ⟨b, i, none⟩) (World.block_lt_of_cell? w _ hx)]; exact hx
  exact ⟨b, o, os[k], e, rfl, h1.below hb, h2, hc c0, hc c1, hc c2, hc c3, hc c4, hc c5⟩
/-- a reader and a writer in step: what was taken was laid -/
def InStep (w wr : World) (p q base : Nat) (zs : List Nat) (must : Bool) (k : Nat) : Prop :=
  ∃ pos v, Rd wr p w.heap.size zs pos 0 ∧ Wr wr q v (zs.take pos) 0 base ∧ Below w.heap.size w wr ∧ base ≤ wr.heap.size ∧ (must = true → (k = 0 ∧ pos = 0) ∨ (k = 1 ∧ pos = zs.length))
theorem step_call2 {P : Program} {ops : Array Oper} {o : Oper} {a : Act} {w : World} {K : Act → World → Prop} {Q : Exit → Act → World → Prop} {E : Prop} (hw : Region.wanted o (yielded ops a.tmps) = true)
    (f : FuncId) (xs : Array Operand) (ats : Array TypeId) (ho : o.op = .call { callee := .value (.func f), args := xs, argTypes := ats }) (he : Enters P f) (args : Array Value) (hargs : #[] ++ xs.map a.eval ++ #[] = args) {v : Value} {R : World → Prop}
    (hc : Calls P f args w fun e w' => e = .returned v ∧ R w') (hK : ∀ w', R w' → K (a.put o.dst v) w') :
    if Region.wanted o (yielded ops a.tmps) = true then Oper.wp P o a w K Q else E := by
  rw [if_pos hw]
  have e1 : execOp a.eval o = callFunc f args := by
    cases o
    simp only at ho
    subst ho
    rw [← hargs]
    rfl
  unfold Oper.wp
  rw [e1, he args w]
  rw [Oper.upon_enter]
  refine hc.mono ?_
  rintro e w' ⟨rfl, h⟩
  exact hK w' h
/-- a call of a Go function, as one of the operations of a region that may come next -/
theorem ready_call {P : Program} {md : Region.Mode} {ops : Array Oper} {Q : Exit → Act → World → Prop} {fuel : Nat} {listed : Array Bool} {a : Act} {w : World} {i : Nat} {o : Oper} {rs : List Nat} (hi : ops[i]? = some o) (hw : Region.wanted o (yielded ops a.tmps) = true)
    (f : FuncId) (xs : Array Operand) (ats : Array TypeId) (ho : o.op = .call { callee := .value (.func f), args := xs, argTypes := ats }) (he : Enters P f) (args : Array Value) (hargs : #[] ++ xs.map a.eval ++ #[] = args) {v : Value} {R : World → Prop}
    (hc : Calls P f args w fun e w' => e = .returned v ∧ R w') (hK : ∀ w', R w' → wpAny P md ops Q fuel (listed.setIfInBounds i true) (a.put o.dst v) w') (hs : AllReady P md ops Q fuel listed a w rs) : AllReady P md ops Q fuel listed a w (i :: rs) :=
  AllReady.cons hi (fun _ hK' => step_call2 hw f xs ats ho he args hargs hc (fun w' hr => hK' _ _ (hK w' hr))) hs
/-- string(b), as one of the operations of a region that may come next -/
theorem ready_conv {md : Region.Mode} {ops : Array Oper} {Q : Exit → Act → World → Prop} {fuel : Nat} {listed : Array Bool} {a : Act} {w : World} {i : Nat} {o : Oper} {rs : List Nat} (hi : ops[i]? = some o) (x : Operand) (hw : Region.wanted o (yielded ops a.tmps) = true) (ho : o.op = .convert 22 9 x)
    {u : Value} {zs : List Nat} (hx : a.eval x = u) (hsl : Sl w u zs) (hK : wpAny Tryd.prog md ops Q fuel (listed.setIfInBounds i true) (a.put o.dst (.string (mkS zs))) w) (hs : AllReady Tryd.prog md ops Q fuel listed a w rs) : AllReady Tryd.prog md ops Q fuel listed a w (i :: rs) := by
  refine AllReady.cons hi (fun K hK' => ?_) hs
  rw [if_pos hw]
  unfold Oper.wp execOp
  simp only [ho, Sem.run_bind, Sem.run_pure, Result.andThen_ok, hx, conv_str hsl]
  exact hK' _ _ hK
theorem row_whole {w : World} {g : Nat} {zs : List Nat} (h : Row w g zs) (hs : ∀ z ∈ zs, z < 256) (hl : zs.length ≤ 549755813888) : Sl w (.slice (some ⟨g, 0, none⟩) zs.length zs.length) zs := by
  have := h.sl hs 0 zs.length zs.length (by omega) (Nat.le_refl _) (by unfold maxLen; omega)
  rwa [List.drop_zero, List.take_length] at this
/-- what was taken is laid: the next step of both -/
theorem forth_laid {w wr w3 : World} {p q pos r3 : Nat} {zs : List Nat} {v : Value} {T : Took} {op : OpV} {a3 : Option Addr} {must : Bool} {k : Nat} (hw : Wr wr q v (zs.take pos) 0 q) (hbl : Below w.heap.size w wr) (ht : Tab w) (hpq : w.heap.size < p ∧ p < q) (hbs : q ≤ wr.heap.size) (hl : zs.length ≤ 549755813888)
    (ha : Ag wr w3 p w.heap.size zs T.pos T.why) (hs : Sl w3 (.slice a3 T.ps.length r3) T.ps) (hfit : TookFits zs T) (hF : layF (zs.take pos) ⟨op.kind, 0, T.n, op.num, .slice a3 T.ps.length r3, T.ps, mkS T.s⟩ = (zs.take T.pos, 0)) (hy : T.why = 0) (hm : must = true → (k = 0 ∧ T.pos = 0) ∨ (k = 1 ∧ T.pos = zs.length)) (X : Obj) :
    Calls Tryd.prog 10 #[.pointer (some ⟨q, 0, none⟩), .agg (OpV.vals ⟨op.kind, 0, T.n, op.num, .slice a3 T.ps.length r3, T.ps, mkS T.s⟩)] (w3.alloc X) (fun e w' => e = .returned (.bool true) ∧ InStep w w' p q q zs must k) := by
  obtain ⟨ha1, ha2, ha3, ha4⟩ := ha
  have hw3 : Wr w3 q v (zs.take pos) 0 q := hw.keeps ha2 (by omega) (fun k hk e => by have := own_ge hw.2.1 hk; omega)
  have hbl3 : Below w.heap.size w w3 := hbl.trans (ha2.below hbl.size (fun i _ e => by omega))
  have hsz : q ≤ w3.heap.size := Nat.le_trans hbs ha2.size
  have hblX : Below w.heap.size w (w3.alloc X) := hbl3.alloc hbl3.size X
  refine (laid_any (hw3.alloc X) ⟨hs.below ((Below.refl _ _).alloc (Nat.le_refl _) _), hfit.1, Nat.le_trans hfit.2.1 hl, ?_⟩ ?_ ?_ (ht.below hblX)).mono ?_
  · show (mkS T.s).size ≤ _
    rw [mkS_size]; exact Nat.le_trans hfit.2.2 hl
  · rw [List.length_take]; omega
  · simp; omega
  · rintro e w4 ⟨rfl, v4, h1, h2, h3⟩
    rw [hF] at h1 ⊢
    refine ⟨rfl, T.pos, v4, ?_, h1, ?_, ?_, hm⟩
    · have hn : ∀ k, k < q → ¬ Foot q v k := fun k hk h => by
        rcases h with h | h
        · omega
        · have := own_ge hw.2.1 h; omega
      rw [hy] at ha1
      exact (ha1.alloc X).keeps h2 (hn p hpq.2) (hn _ (by omega))
    · refine hblX.trans (h2.below hblX.size (fun i _ h => ?_))
      rcases h with h | h
      · omega
      · have := own_ge hw.2.1 h; omega
    · have := h2.size; simp at this; omega
set_option maxRecDepth 100000 in
set_option maxHeartbeats 2000000 in
theorem forth_any {w : World} {u v : Value} {zs : List Nat} {os : List OpV} {must : Bool} (hu : Sl w u zs) (hv : Scr w v os) (ht : Tab w) (hl : zs.length ≤ 549755813888) (hM : must = true → ∃ o, os = [o] ∧ (takeF zs 0 o).why = 0 ∧ (takeF zs 0 o).pos = zs.length) :
    Calls Tryd.prog 7 #[u, v, .bool must] w fun e w' => e = .returned (.bool true) ∧ Below w.heap.size w w' := by
  have HU : Hid (Sl w u zs) := hu
  have HV : Hid (Scr w v os) := hv
  obtain ⟨ao, cap, rfl, hcap, hmax, hcells⟩ := hv
  clear hu hcells
  unfold maxLen at hmax
  have HM : Hid (must = true → ∃ o, os = [o] ∧ (takeF zs 0 o).why = 0 ∧ (takeF zs 0 o).pos = zs.length) := hM
  clear hM
  have HT : Hid (Tab w) := ht
  clear ht
  go_enter Tryd.func7, Tryd.ntmps7
  go_wp2_with fail
  refine (newReader_any HU.out (by omega)).mono ?_
  rintro e w1 ⟨p, rfl, hp, hr, hb⟩
  have HR1 : Hid (Rd w1 p w.heap.size zs 0 0) := hr
  have HB1 : Hid (Below w.heap.size w w1) := hb
  clear hr hb
  go_wp2_with fail
  refine (newWriter_any w1).mono ?_
  rintro e w2 ⟨rfl, hw, hb⟩
  have HW2 : Hid (Wr w2 w1.heap.size (.slice none 0 0) [] 0 w1.heap.size) := hw
  have HB2 : Hid (Below w1.heap.size w1 w2) := hb
  clear hw hb
  go_wp2
  go_loopw [9] (fun i wr => ∃ k : Nat, k ≤ os.length ∧ i = .int .i64 (k : Int) ∧ Hid (InStep w wr p w1.heap.size w1.heap.size zs must k)) (fun i _ => os.length - (intOf i).toNat)
  case atStart => exact ⟨0, Nat.zero_le _, rfl, 0, _, HR1.out.keeps (Keeps.of_below (S := fun _ => False) HB2.out) (fun h => h) (fun h => h), by simpa using HW2.out, HB1.out.trans (HB2.out.mono (Nat.le_of_lt (Nat.lt_trans hp HR1.out.lt))), Nat.le_of_lt HW2.out.lt, fun _ => .inl ⟨rfl, rfl⟩⟩
  case round =>
    obtain ⟨k, hk, rfl, HK⟩ := hrel
    by_cases hlt : k < os.length
    · have HK' := HK.out
      obtain ⟨pos, v, hr, hw, hbl, hbs, hm⟩ := HK'
      obtain ⟨b, of, op, hao, hop, hsl, hn, c0, c1, c2, c3, c4, c5⟩ := HV.out.at hbl k hlt
      subst hao
      have HR : Hid (Rd wr p w.heap.size zs pos 0) := hr
      have HW : Hid (Wr wr w1.heap.size v (zs.take pos) 0 w1.heap.size) := hw
      have HBL : Hid (Below w.heap.size w wr) := hbl
      have HSL : Hid (Sl wr op.pv op.ps) := hsl
      obtain ⟨T, hT⟩ : ∃ T, takeF zs pos op = T := ⟨_, rfl⟩
      have HMT : Hid (must = true → T.why = 0 ∧ k = 0 ∧ T.pos = zs.length) := fun hmu => by
        obtain ⟨o, ho, h1, h2⟩ := HM.out hmu
        subst ho
        have hk0 : k = 0 := by simp at hlt; exact hlt
        subst hk0
        have hp0 : pos = 0 := by
          rcases hm hmu with h | h
          · exact h.2
          · exact absurd h.1 (by decide)
        rw [← hT, hop, hp0]
        exact ⟨h1, rfl, h2⟩
      clear hr hw hbl hsl hop hm
      have HC : Hid (Calls Tryd.prog 15 #[.pointer (some ⟨p, 0, none⟩), .agg op.vals] wr (TookPost wr p w.heap.size zs op T)) := hT ▸ again_any HR.out HSL.out (HT.out.below HBL.out)
      have HTk : Hid (takeF zs pos op = T) := hT
      clear hT
      go_wp2_with fail
      refine HC.out.mono ?_
      rintro e w3 ⟨v3, rfl, hs3, hn3, hag⟩
      obtain ⟨a3, r3, hv3⟩ : ∃ a c, v3 = .slice a T.ps.length c := by
        obtain ⟨a, c, e, _⟩ := hs3
        exact ⟨a, c, e⟩
      subst hv3
      have HS3 : Hid (Sl w3 (.slice a3 T.ps.length r3) T.ps) := hs3
      have HA3 : Hid (Ag wr w3 p w.heap.size zs T.pos T.why) := hag
      simp only [OpV.vals]
      clear hs3 hn3 hag HC
      go_wp2_with fail
      refine (rerr_any (HA3.out.1.alloc _)).mono ?_
      rintro e w' ⟨rfl, hw⟩
      rw [hw]
      clear hw w'
      by_cases hy : T.why = 0
      · have HF : Hid (layF (zs.take pos) ⟨op.kind, 0, T.n, op.num, .slice a3 T.ps.length r3, T.ps, mkS T.s⟩ = (zs.take T.pos, 0)) := by
          have := (forth_step HR.out.2.2.2.2.1 HR.out.2.2.2.1 (o := op) (by rw [HTk.out]; exact hy) 0 (.slice a3 T.ps.length r3)).1
          rwa [HTk.out] at this
        have HL : Hid (∀ X, Calls Tryd.prog 10 #[.pointer (some ⟨w1.heap.size, 0, none⟩), .agg (OpV.vals ⟨op.kind, 0, T.n, op.num, .slice a3 T.ps.length r3, T.ps, mkS T.s⟩)] (w3.alloc X) (fun e w' => e = .returned (.bool true) ∧ InStep w w' p w1.heap.size w1.heap.size zs must (k + 1))) :=
          fun X => forth_laid HW.out HBL.out HT.out ⟨hp, HR1.out.lt⟩ hbs hl HA3.out HS3.out (HTk.out ▸ took_fits HR.out.2.2.2.2.1) HF.out hy (fun hmu => .inr ⟨by rw [(HMT.out hmu).2.1], (HMT.out hmu).2.2⟩) X
        rw [hy]
        clear HA3 HS3
        go_wp2_with fail
        refine (HL.out _).mono ?_
        rintro e w4 ⟨rfl, hst⟩
        have HST : Hid (InStep w w4 p w1.heap.size w1.heap.size zs must (k + 1)) := hst
        clear hst HL
        go_wp2
        go_roundw
        case rel => exact ⟨k + 1, by omega, by go_num, HST.out⟩
        case measure => simp [intOf]; omega
      · have hmf : must = false := by
          cases must with
          | false => rfl
          | true => exact absurd (HMT.out rfl).1 hy
        subst hmf
        have HBX : Hid (∀ X, Below w.heap.size w (w3.alloc X)) := fun X => (HBL.out.trans (HA3.out.2.1.below HBL.out.size (fun i _ e => by omega))).alloc (Nat.le_trans HBL.out.size HA3.out.2.1.size) X
        go_wp2
        go_ret
        exact ⟨rfl, HBX.out _⟩
    · have hke : k = os.length := by omega
      subst hke
      have HK' := HK.out
      obtain ⟨pos, v, hr, hw, hbl, hbs, hm⟩ := HK'
      have HR : Hid (Rd wr p w.heap.size zs pos 0) := hr
      have HW : Hid (Wr wr w1.heap.size v (zs.take pos) 0 w1.heap.size) := hw
      have HSU : Hid (Sl wr u zs) := HU.out.below hbl
      have hps : pos ≤ zs.length := hr.2.2.2.1
      have HE17 : Hid (Enters Tryd.prog 17) := enters_of Tryd.func17 (by kernel_rfl) rfl
      by_cases hpe : pos < zs.length
      · have hmf : must = false := by
          cases must with
          | false => rfl
          | true =>
            obtain ⟨o, ho, h1, h2⟩ := HM.out rfl
            rcases hm rfl with h | h
            · rw [ho] at h; exact absurd h.1 (Nat.one_ne_zero)
            · omega
        subst hmf
        have HBL : Hid (Below w.heap.size w wr) := hbl
        clear hr hw hbl hm
        go_wp2
        refine wp_region_any (by kernel_rfl) ?_
        change wpAny _ _ _ _ _ _ _ (World.drew _)
        refine wpAny_take (i := 0) (v := .pointer (some ⟨p, 0, none⟩)) rfl (by kernel_rfl) (by kernel_rfl) (by kernel_rfl) (fun _ _ _ h => h) (Or.inl ⟨by kernel_rfl, ?_⟩) ?_
        · intro w; go_simp
        refine wpAny_ready (rs := [1]) (by kernel_rfl) (by simp) (AllReady.cons rfl (fun K hK => ?_) AllReady.nil)
        refine step_call2 (by kernel_rfl) 17 #[.tmp 41] #[38] rfl HE17.out #[.pointer (some ⟨p, 0, none⟩)] (by simp [Act.eval, Act.put]) (end_some HR.out.drew hpe) ?_
        intro w5 hw5
        have HB5 : Hid (Below w.heap.size w w5) := HBL.out.drew.trans (hw5.2.mono HBL.out.size)
        refine hK _ _ ?_
        clear hK K
        refine wpAny_take (i := 2) (v := .bool true) rfl (by kernel_rfl) (by kernel_rfl) (by kernel_rfl) (fun _ _ _ h => h) (Or.inl ⟨by kernel_rfl, ?_⟩) ?_
        · intro w; go_simp
        refine wpAny_take (i := 3) (v := .bool true) rfl (by kernel_rfl) (by kernel_rfl) (by kernel_rfl) (fun _ _ _ h => h) (Or.inl ⟨by kernel_rfl, ?_⟩) ?_
        · intro w; go_simp
        refine wpAny_take (i := 4) (v := .bool false) rfl (by kernel_rfl) (by kernel_rfl) (by kernel_rfl) (fun _ _ _ h => h) (Or.inl ⟨by kernel_rfl, ?_⟩) ?_
        · intro w; go_simp
        refine wpAny_take (i := 5) (v := .bool true) rfl (by kernel_rfl) (by kernel_rfl) (by kernel_rfl) (fun _ _ _ h => h) (Or.inl ⟨by kernel_rfl, ?_⟩) ?_
        · intro w; go_simp
        refine wpAny_take (i := 6) (v := .bool true) rfl (by kernel_rfl) (by kernel_rfl) (by kernel_rfl) (fun _ _ _ h => h) (Or.inl ⟨by kernel_rfl, ?_⟩) ?_
        · intro w; go_simp
        refine wpAny_take (i := 7) (v := .bool true) rfl (by kernel_rfl) (by kernel_rfl) (by kernel_rfl) (fun _ _ _ h => h) (Or.inl ⟨by kernel_rfl, ?_⟩) ?_
        · intro w; go_simp
        refine wpAny_take (i := 8) (v := undef) rfl (by kernel_rfl) (by kernel_rfl) (by kernel_rfl) (fun _ _ _ h => h) (Or.inr ⟨by kernel_rfl, rfl⟩) ?_
        refine wpAny_take (i := 9) (v := undef) rfl (by kernel_rfl) (by kernel_rfl) (by kernel_rfl) (fun _ _ _ h => h) (Or.inr ⟨by kernel_rfl, rfl⟩) ?_
        refine wpAny_take (i := 10) (v := undef) rfl (by kernel_rfl) (by kernel_rfl) (by kernel_rfl) (fun _ _ _ h => h) (Or.inr ⟨by kernel_rfl, rfl⟩) ?_
        refine wpAny_take (i := 11) (v := undef) rfl (by kernel_rfl) (by kernel_rfl) (by kernel_rfl) (fun _ _ _ h => h) (Or.inr ⟨by kernel_rfl, rfl⟩) ?_
        refine wpAny_take (i := 12) (v := undef) rfl (by kernel_rfl) (by kernel_rfl) (by kernel_rfl) (fun _ _ _ h => h) (Or.inr ⟨by kernel_rfl, rfl⟩) ?_
        refine wpAny_take (i := 13) (v := undef) rfl (by kernel_rfl) (by kernel_rfl) (by kernel_rfl) (fun _ _ _ h => h) (Or.inr ⟨by kernel_rfl, rfl⟩) ?_
        refine wpAny_take (i := 14) (v := .bool true) rfl (by kernel_rfl) (by kernel_rfl) (by kernel_rfl) (fun _ _ _ h => h) (Or.inl ⟨by kernel_rfl, ?_⟩) ?_
        · intro w; go_simp
        refine wpAny_take (i := 15) (v := .bool true) rfl (by kernel_rfl) (by kernel_rfl) (by kernel_rfl) (fun _ _ _ h => h) (Or.inl ⟨by kernel_rfl, ?_⟩) ?_
        · intro w; go_simp
        refine wpAny_done (by kernel_rfl) ?_ _
        go_wp2
        go_ret
        exact ⟨by kernel_rfl, HB5.out⟩
      · have hpe' : pos = zs.length := by omega
        have hz : zs.take pos = zs := by rw [hpe', List.take_length]
        rw [hz] at hw
        have HW : Hid (Wr wr w1.heap.size v zs 0 w1.heap.size) := hw
        have HE12 : Hid (Enters Tryd.prog 12) := enters_of Tryd.func12 (by kernel_rfl) rfl
        have HL0 : Hid (zs.length ≤ 549755813888) := hl
        have HBL : Hid (Below w.heap.size w wr) := hbl
        clear hr hw hbl hm hz
        go_wp2
        refine wp_region_any (by kernel_rfl) ?_
        change wpAny _ _ _ _ _ _ _ (World.drew _)
        refine wpAny_take (i := 0) (v := .pointer (some ⟨p, 0, none⟩)) rfl (by kernel_rfl) (by kernel_rfl) (by kernel_rfl) (fun _ _ _ h => h) (Or.inl ⟨by kernel_rfl, ?_⟩) ?_
        · intro w; go_simp
        refine wpAny_ready (rs := [1]) (by kernel_rfl) (by simp) (AllReady.cons rfl (fun K hK => ?_) AllReady.nil)
        refine step_call2 (by kernel_rfl) 17 #[.tmp 41] #[38] rfl HE17.out #[.pointer (some ⟨p, 0, none⟩)] (by simp [Act.eval, Act.put]) (end_none HR.out.drew hpe') ?_
        intro w5 hw5
        have HB5 : Hid (Below w.heap.size w w5) := HBL.out.drew.trans (hw5.2.mono HBL.out.size)
        refine hK _ _ ?_
        clear hK K
        refine wpAny_take (i := 2) (v := .bool false) rfl (by kernel_rfl) (by kernel_rfl) (by kernel_rfl) (fun _ _ _ h => h) (Or.inl ⟨by kernel_rfl, ?_⟩) ?_
        · intro w; go_simp
        refine wpAny_take (i := 3) (v := .bool false) rfl (by kernel_rfl) (by kernel_rfl) (by kernel_rfl) (fun _ _ _ h => h) (Or.inl ⟨by kernel_rfl, ?_⟩) ?_
        · intro w; go_simp
        refine wpAny_take (i := 4) (v := undef) rfl (by kernel_rfl) (by kernel_rfl) (by kernel_rfl) (fun _ _ _ h => h) (Or.inr ⟨by kernel_rfl, rfl⟩) ?_
        refine wpAny_take (i := 5) (v := undef) rfl (by kernel_rfl) (by kernel_rfl) (by kernel_rfl) (fun _ _ _ h => h) (Or.inr ⟨by kernel_rfl, rfl⟩) ?_
        refine wpAny_take (i := 6) (v := .bool false) rfl (by kernel_rfl) (by kernel_rfl) (by kernel_rfl) (fun _ _ _ h => h) (Or.inl ⟨by kernel_rfl, ?_⟩) ?_
        · intro w; go_simp
        refine wpAny_take (i := 7) (v := .bool false) rfl (by kernel_rfl) (by kernel_rfl) (by kernel_rfl) (fun _ _ _ h => h) (Or.inl ⟨by kernel_rfl, ?_⟩) ?_
        · intro w; go_simp
        refine wpAny_take (i := 8) (v := .pointer (some ⟨w1.heap.size, 0, none⟩)) rfl (by kernel_rfl) (by kernel_rfl) (by kernel_rfl) (fun _ _ _ h => h) (Or.inl ⟨by kernel_rfl, ?_⟩) ?_
        · intro w; go_simp
        refine wpAny_take (i := 11) (v := u) rfl (by kernel_rfl) (by kernel_rfl) (by kernel_rfl) (fun _ _ _ h => h) (Or.inl ⟨by kernel_rfl, ?_⟩) ?_
        · intro w; go_simp
        have HW5 : Hid (Wr w5 w1.heap.size v zs 0 w1.heap.size) := HW.out.keeps ((Keeps.refl (fun _ => False) wr).drew.trans (hw5.keeps (S := fun _ => False)) (fun _ _ h => h)) (fun h => h) (fun _ _ h => h)
        have HU5 : Hid (Sl w5 u zs) := HSU.out.keeps ((Keeps.refl (fun _ => False) wr).drew.trans (hw5.keeps (S := fun _ => False)) (fun _ _ h => h)) (fun _ _ h => h)
        refine wpAny_ready (rs := [9, 12]) (by kernel_rfl) (by simp) ?_
        refine ready_call (o := { dst := some 50, op := Op.call { callee := Callee.value (Operand.func 12), args := #[Operand.tmp 49], argTypes := #[31] }, type := 22, pos := "outright.go:126", after := #[{ on := 8, ground := Ground.data }, { on := 7, ground := Ground.chain }, { on := 7, ground := Ground.guard }], guard := some (7, false) }) rfl (by kernel_rfl) 12 #[.tmp 49] #[31] rfl HE12.out #[.pointer (some ⟨w1.heap.size, 0, none⟩)] (by simp [Act.eval, Act.put]) (all_any HW5.out (by omega)) (fun w6 hw6 => ?_) (ready_conv (o := { dst := some 53, op := Op.convert 22 9 (Operand.tmp 52), type := 9, pos := "outright.go:126", after := #[{ on := 11, ground := Ground.data }, { on := 7, ground := Ground.guard }], guard := some (7, false) }) rfl (.tmp 52) (by kernel_rfl) rfl (by simp [Act.eval, Act.put]) HU5.out ?_ AllReady.nil)
        · have HQ6 : Hid (Sl w6 (.slice (some ⟨w5.heap.size, 0, none⟩) zs.length zs.length) zs) := row_whole hw6.1 HU5.out.small HL0.out
          have HU6 : Hid (Sl w6 u zs) := HU5.out.below hw6.2
          refine wpAny_ready (rs := [10, 12]) (by kernel_rfl) (by simp) ?_
          refine ready_conv (o := { dst := some 51, op := Op.convert 22 9 (Operand.tmp 50), type := 9, pos := "outright.go:126", after := #[{ on := 9, ground := Ground.data }, { on := 7, ground := Ground.guard }], guard := some (7, false) }) rfl (.tmp 50) (by kernel_rfl) rfl (by simp [Act.eval, Act.put]) HQ6.out ?_ (ready_conv (o := { dst := some 53, op := Op.convert 22 9 (Operand.tmp 52), type := 9, pos := "outright.go:126", after := #[{ on := 11, ground := Ground.data }, { on := 7, ground := Ground.guard }], guard := some (7, false) }) rfl (.tmp 52) (by kernel_rfl) rfl (by simp [Act.eval, Act.put]) HU6.out ?_ AllReady.nil)
          · refine wpAny_ready (rs := [12]) (by kernel_rfl) (by simp) ?_
            refine ready_conv (o := { dst := some 53, op := Op.convert 22 9 (Operand.tmp 52), type := 9, pos := "outright.go:126", after := #[{ on := 11, ground := Ground.data }, { on := 7, ground := Ground.guard }], guard := some (7, false) }) rfl (.tmp 52) (by kernel_rfl) rfl (by simp [Act.eval, Act.put]) HU6.out ?_ AllReady.nil
            refine wpAny_take (i := 13) (v := .bool true) rfl (by kernel_rfl) (by kernel_rfl) (by kernel_rfl) (fun _ _ _ h => h) (Or.inl ⟨by kernel_rfl, ?_⟩) ?_
            · intro w; go_simp
            refine wpAny_take (i := 14) (v := .bool true) rfl (by kernel_rfl) (by kernel_rfl) (by kernel_rfl) (fun _ _ _ h => h) (Or.inl ⟨by kernel_rfl, ?_⟩) ?_
            · intro w; go_simp
            refine wpAny_take (i := 15) (v := .bool true) rfl (by kernel_rfl) (by kernel_rfl) (by kernel_rfl) (fun _ _ _ h => h) (Or.inl ⟨by kernel_rfl, ?_⟩) ?_
            · intro w; go_simp
            refine wpAny_done (by kernel_rfl) ?_ _
            go_wp2
            go_ret
            exact ⟨by kernel_rfl, HB5.out.trans (hw6.2.mono HB5.out.size)⟩
          · refine wpAny_ready (rs := [10]) (by kernel_rfl) (by simp) ?_
            refine ready_conv (o := { dst := some 51, op := Op.convert 22 9 (Operand.tmp 50), type := 9, pos := "outright.go:126", after := #[{ on := 9, ground := Ground.data }, { on := 7, ground := Ground.guard }], guard := some (7, false) }) rfl (.tmp 50) (by kernel_rfl) rfl (by simp [Act.eval, Act.put]) HQ6.out ?_ AllReady.nil
            refine wpAny_take (i := 13) (v := .bool true) rfl (by kernel_rfl) (by kernel_rfl) (by kernel_rfl) (fun _ _ _ h => h) (Or.inl ⟨by kernel_rfl, ?_⟩) ?_
            · intro w; go_simp
            refine wpAny_take (i := 14) (v := .bool true) rfl (by kernel_rfl) (by kernel_rfl) (by kernel_rfl) (fun _ _ _ h => h) (Or.inl ⟨by kernel_rfl, ?_⟩) ?_
            · intro w; go_simp
            refine wpAny_take (i := 15) (v := .bool true) rfl (by kernel_rfl) (by kernel_rfl) (by kernel_rfl) (fun _ _ _ h => h) (Or.inl ⟨by kernel_rfl, ?_⟩) ?_
            · intro w; go_simp
            refine wpAny_done (by kernel_rfl) ?_ _
            go_wp2
            go_ret
            exact ⟨by kernel_rfl, HB5.out.trans (hw6.2.mono HB5.out.size)⟩
        · refine wpAny_ready (rs := [9]) (by kernel_rfl) (by simp) ?_
          refine ready_call (o := { dst := some 50, op := Op.call { callee := Callee.value (Operand.func 12), args := #[Operand.tmp 49], argTypes := #[31] }, type := 22, pos := "outright.go:126", after := #[{ on := 8, ground := Ground.data }, { on := 7, ground := Ground.chain }, { on := 7, ground := Ground.guard }], guard := some (7, false) }) rfl (by kernel_rfl) 12 #[.tmp 49] #[31] rfl HE12.out #[.pointer (some ⟨w1.heap.size, 0, none⟩)] (by simp [Act.eval, Act.put]) (all_any HW5.out (by omega)) (fun w6 hw6 => ?_) AllReady.nil
          have HQ6 : Hid (Sl w6 (.slice (some ⟨w5.heap.size, 0, none⟩) zs.length zs.length) zs) := row_whole hw6.1 HU5.out.small HL0.out
          have HU6 : Hid (Sl w6 u zs) := HU5.out.below hw6.2
          refine wpAny_ready (rs := [10]) (by kernel_rfl) (by simp) ?_
          refine ready_conv (o := { dst := some 51, op := Op.convert 22 9 (Operand.tmp 50), type := 9, pos := "outright.go:126", after := #[{ on := 9, ground := Ground.data }, { on := 7, ground := Ground.guard }], guard := some (7, false) }) rfl (.tmp 50) (by kernel_rfl) rfl (by simp [Act.eval, Act.put]) HQ6.out ?_ AllReady.nil
          refine wpAny_take (i := 13) (v := .bool true) rfl (by kernel_rfl) (by kernel_rfl) (by kernel_rfl) (fun _ _ _ h => h) (Or.inl ⟨by kernel_rfl, ?_⟩) ?_
          · intro w; go_simp
          refine wpAny_take (i := 14) (v := .bool true) rfl (by kernel_rfl) (by kernel_rfl) (by kernel_rfl) (fun _ _ _ h => h) (Or.inl ⟨by kernel_rfl, ?_⟩) ?_
          · intro w; go_simp
          refine wpAny_take (i := 15) (v := .bool true) rfl (by kernel_rfl) (by kernel_rfl) (by kernel_rfl) (fun _ _ _ h => h) (Or.inl ⟨by kernel_rfl, ?_⟩) ?_
          · intro w; go_simp
          refine wpAny_done (by kernel_rfl) ?_ _
          go_wp2
          go_ret
          exact ⟨by kernel_rfl, HB5.out.trans (hw6.2.mono HB5.out.size)⟩
end Go.Proofs.YtphlfkkbkkocmabDoor
