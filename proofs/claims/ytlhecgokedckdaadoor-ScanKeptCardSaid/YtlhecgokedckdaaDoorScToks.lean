/- Scan: Tokens. -/
import Derived.Test.YtlhecgokedckdaaDoorScLex
import Derived.Test.YtlhecgokedckdaaDoorScLen
namespace Go.Proofs.YtlhecgokedckdaaDoor
open Go.RowKit Sc
/-- where Tokens stands at the head of its loop -/
def ToksI (w : World) (v : Value) (zs : List Nat) (wr : World) (a : Nat) : Prop :=
  ∃ lv ts f, CutB wr w.heap.size v a lv ∧ OwnT wr w.heap.size lv ts ∧ lv.ownBlock ≠ some w.heap.size ∧ Below w.heap.size w wr ∧ w.heap.size < wr.heap.size ∧ a ≤ zs.length ∧ ts.length ≤ a ∧ zs.length - a ≤ f ∧
    Sc.toksF (zs.length + 1) 0 zs = Sc.pre ts (Sc.tailT f a (zs.drop a))
set_option maxRecDepth 100000 in
set_option maxHeartbeats 1000000 in
theorem tokens_any {w : World} {v : Value} {zs : List Nat} (ht : Tabs w) (hs : Sl w v zs) (hv : ∀ k, v.ownBlock = some k → k < w.heap.size) (h9 : 9 ≤ w.heap.size) :
    Calls Tryd.prog 4 #[v] w fun e w' => ∃ lv, e = .returned (.tuple #[lv, .int .i64 ((Sc.tokens zs).2.1 : Nat), .int .i64 ((Sc.tokens zs).2.2 : Nat)]) ∧ OwnT w' w.heap.size lv (Sc.tokens zs).1 ∧ Below w.heap.size w w' := by
  have hlen := hs.len
  unfold maxLen at hlen
  by_cases hbig : 1048576 < zs.length
  · have e : Sc.tokens zs = ([], 0, 3) := by unfold Sc.tokens; rw [if_pos hbig]
    rw [e]
    obtain ⟨ao, cap, rfl, _⟩ := hs
    clear ht hv e
    go_enter Tryd.func4, Tryd.ntmps4
    go_wp2
    go_ret3
    exact ⟨_, rfl, OwnT.nil _ _, Below.refl _ _⟩
  · have HT : Hid (Tabs w) := ht
    have HS : Hid (Sl w v zs) := hs
    have hmax : zs.length ≤ 1048576 := by omega
    have HE : Hid (Sc.tokens zs = Sc.tokRes (Sc.toksF (zs.length + 1) 0 zs)) := Sc.tokens_eq hbig
    obtain ⟨ao, cap, rfl, _⟩ := id hs
    clear ht hs
    go_enter Tryd.func4, Tryd.ntmps4
    obtain ⟨W, hW⟩ : ∃ W, w.alloc (.cells #[.slice ao zs.length cap, .int .i64 0, .slice none 0 0] 51) = W := ⟨_, rfl⟩
    have hb0 : Below w.heap.size w W := hW ▸ (Below.refl _ _).alloc (Nat.le_refl _) _
    have hsz0 : w.heap.size < W.heap.size := by rw [← hW]; simp
    have HC0 : Hid (CutB W w.heap.size (.slice ao zs.length cap) 0 (.slice none 0 0)) := hW ▸ heap_alloc_new w _
    have HWe : Hid (w.alloc (.cells #[.slice ao zs.length cap, .int .i64 0, .slice none 0 0] 51) = W) := hW
    have HB0 : Hid (Below w.heap.size w W) := hb0
    clear hW hb0
    have hvp : (Value.slice ao zs.length cap).ownBlock ≠ some w.heap.size := fun e => by have := hv _ e; omega
    have HSk : Hid (∀ W' a lv, Below w.heap.size w W' → CutB W' w.heap.size (.slice ao zs.length cap) a lv → a ≤ zs.length → Calls Tryd.prog 19 #[.pointer (some ⟨w.heap.size, 0, none⟩)] W' fun e w' => e = .returned (.tuple #[]) ∧ CutB w' w.heap.size (.slice ao zs.length cap) (a + Sc.skipN false (zs.drop a)) lv ∧ Keeps (fun k => k = w.heap.size) W' w') := fun W' a lv hb hc ha => skip_any (HT.out.below hb) hc (HS.out.below hb) hvp h9 ha
    have HLx : Hid (∀ W' a lv ts, Below w.heap.size w W' → CutB W' w.heap.size (.slice ao zs.length cap) a lv → a < zs.length → OwnT W' w.heap.size lv ts → lv.ownBlock ≠ some w.heap.size → ts.length ≤ a → Calls Tryd.prog 20 #[.pointer (some ⟨w.heap.size, 0, none⟩)] W' fun e w' => e = .returned (.bool (Sc.lexF (zs.drop a)).isOk) ∧ ∃ lv', CutB w' w.heap.size (.slice ao zs.length cap) (a + (Sc.lexF (zs.drop a)).len) lv' ∧ OwnT w' w.heap.size lv' (ts ++ lexToks (zs.drop a) a) ∧ Keeps (fun k => k = w.heap.size ∨ lv.ownBlock = some k) W' w' ∧ At W' lv lv') := fun W' a lv ts hb hc ha ho hl hts => lexeme_any (HT.out.below hb) hc (HS.out.below hb) hvp h9 ha hmax ho hl hb.size (by omega)
    go_wp2_with fail
    rw [HWe.out]
    refine (HSk.out W 0 _ HB0.out HC0.out (by omega)).mono ?_
    rintro e w1 ⟨rfl, hc1, hk1⟩
    have HI0 : Hid (ToksI w (.slice ao zs.length cap) zs w1 (0 + Sc.skipN false (zs.drop 0))) := by
      refine ⟨.slice none 0 0, [], zs.length, hc1, OwnT.nil _ _, by simp [Value.ownBlock], HB0.out.trans (hk1.below (Nat.le_of_lt hsz0) (fun i _ e => by omega)), Nat.lt_of_lt_of_le hsz0 hk1.size, ?_, by simp, by omega, ?_⟩
      · have := Sc.skipN_le false zs
        rw [List.drop_zero]
        omega
      · rw [List.drop_zero, Sc.toksF_tail, Nat.zero_add]
        cases Sc.tailT zs.length (Sc.skipN false zs) (zs.drop (Sc.skipN false zs)) <;> rfl
    clear hc1 hk1 HWe HC0 HB0
    go_wp2_with fail
    go_loopw [16] (fun _ wr => ∃ a, ToksI w (.slice ao zs.length cap) zs wr a) (fun _ wr => zs.length - posOf wr w.heap.size)
    case atStart => exact ⟨_, HI0.out⟩
    case round =>
      obtain ⟨a, lv, ts, f, hc, ho, hlp, hb, hsz, ha, hts, hf, hE⟩ := hrel
      have HEq : Hid (Sc.toksF (zs.length + 1) 0 zs = Sc.pre ts (Sc.tailT f a (zs.drop a))) := hE
      have HPo : Hid (posOf wr w.heap.size = a) := hc.pos
      have c1 := hc.cell1
      clear hE HI0
      by_cases hlt : a < zs.length
      · have hne : zs.drop a ≠ [] := fun e => by have := congrArg List.length e; simp at this; omega
        have HL : Hid (Calls Tryd.prog 20 #[.pointer (some ⟨w.heap.size, 0, none⟩)] wr fun e w' => e = .returned (.bool (Sc.lexF (zs.drop a)).isOk) ∧ ∃ lv', CutB w' w.heap.size (.slice ao zs.length cap) (a + (Sc.lexF (zs.drop a)).len) lv' ∧ OwnT w' w.heap.size lv' (ts ++ lexToks (zs.drop a) a) ∧ Keeps (fun k => k = w.heap.size ∨ lv.ownBlock = some k) wr w' ∧ At wr lv lv') := HLx.out wr a lv ts hb hc hlt ho hlp hts
        go_wp2_with fail
        refine HL.out.mono ?_
        rintro e w2 ⟨rfl, lv', hc2, ho2, hk2, hA⟩
        have hb2 : Below w.heap.size w w2 := hb.trans (hk2.below (Nat.le_of_lt hsz) (fun i _ e => by
          rcases e with e | e
          · omega
          · exact (ho.lt i e).1))
        have hsz2 : w.heap.size < w2.heap.size := Nat.lt_of_lt_of_le hsz hk2.size
        clear HL hk2
        cases hx : Sc.lexF (zs.drop a) with
        | bad k =>
          rw [hx] at hc2
          have HR : Hid (Sc.tokens zs = ([], a + k, 60)) := by
            show _ = _
            rw [HE.out, HEq.out, Sc.tail_bad hne hx]
            rfl
          have d1 := hc2.cell1
          clear hx hc2 ho2 hA c1
          simp only [Sc.Res.len, Sc.Res.isOk] at d1 ⊢
          go_wp2_with fail
          go_quiet (fail)
          go_wp2_with fail
          go_ret3
          rw [HR.out]
          exact ⟨_, rfl, OwnT.nil _ _, bdn hb2 _⟩
        | ok x k =>
          obtain ⟨hk1, hk2⟩ := Sc.lex_len hx
          rw [List.length_drop] at hk2
          have hlt2 : a + k ≤ zs.length := by omega
          obtain ⟨f', rfl⟩ : ∃ f', f = f' + 1 := ⟨f - 1, by omega⟩
          have htl := Sc.tail_ok (f := f') (a := a) hne hx
          unfold lexToks at ho2
          rw [hx] at hc2 ho2
          have HSk2 : Hid (Calls Tryd.prog 19 #[.pointer (some ⟨w.heap.size, 0, none⟩)] w2 fun e w' => e = .returned (.tuple #[]) ∧ CutB w' w.heap.size (.slice ao zs.length cap) (a + k + Sc.skipN false (zs.drop (a + k))) lv' ∧ Keeps (fun j => j = w.heap.size) w2 w') := HSk.out w2 (a + k) lv' hb2 hc2 hlt2
          have hlp2 : lv'.ownBlock ≠ some w.heap.size := fun e => by
            rcases hA with hA | ⟨j, hA, hj⟩
            · exact hlp (hA ▸ e)
            · rw [e] at hA
              cases hA
              omega
          have HEq2 : Hid (Sc.toksF (zs.length + 1) 0 zs = Sc.pre (ts ++ [⟨x.1, x.2.1, x.2.2, a, a + k⟩]) (Sc.tailT f' (a + k + Sc.skipN false (zs.drop (a + k))) (zs.drop (a + k + Sc.skipN false (zs.drop (a + k)))))) := by
            show _ = _
            rw [HEq.out, htl, Sc.pre_pre, List.drop_drop, List.drop_drop, Nat.add_assoc]
          have hsk := Sc.skipN_le false (zs.drop (a + k))
          rw [List.length_drop] at hsk
          clear hx hA htl c1 HEq
          simp only [Sc.Res.isOk]
          go_wp2_with fail
          refine HSk2.out.mono ?_
          rintro e w3 ⟨rfl, hc3, hk3⟩
          clear HSk2
          go_wp2_with fail
          refine ⟨⟨_, lv', ts ++ [⟨x.1, x.2.1, x.2.2, a, a + k⟩], f', hc3, ho2.keeps hk3 (fun j hj e => hlp2 (e ▸ hj)), hlp2, hb2.trans (hk3.below (Nat.le_of_lt hsz2) (fun i _ e => by omega)), Nat.lt_of_lt_of_le hsz2 hk3.size, by omega, by simp; omega, by omega, HEq2.out⟩, ?_⟩
          rw [hc3.pos, HPo.out]
          omega
      · have hnil : zs.drop a = [] := List.drop_eq_nil_of_le (by omega)
        have HR : Hid (Sc.tokens zs = (ts, 0, 0)) := by
          show _ = _
          rw [HE.out, HEq.out, Sc.tail_end hnil]
          simp [Sc.pre, Sc.tokRes]
        have c2 := hc.cell2
        have HO : Hid (OwnT wr w.heap.size lv ts) := ho
        clear ho HEq
        go_wp2_with fail
        go_ret3
        rw [HR.out]
        exact ⟨_, rfl, HO.out, hb⟩
end Go.Proofs.YtlhecgokedckdaaDoor
