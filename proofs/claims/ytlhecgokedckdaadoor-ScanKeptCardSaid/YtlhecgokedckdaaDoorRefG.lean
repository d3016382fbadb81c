/- The document's own answer to chapter 5: Tokens. -/
import Derived.Test.YtlhecgokedckdaaDoorRefF
import Derived.Test.YtlhecgokedckdaaDoorScToks
namespace Go.Proofs.YtlhecgokedckdaaDoor
open Go.RowKit Sc
theorem wpList_appendT {w : World} {ops : Array Oper} {rest : List Oper} {o : Oper} {a : Act} {Q : Exit → Act → World → Prop} (s x : Operand) (hw : Region.wanted o (yielded ops a.tmps) = true)
    (ho : o.op = .call { callee := .builtin .append, args := #[s, x], argTypes := #[29, 29] })
    {base : Nat} {v : Value} {ts : List Tok} (t : Tok) {g cap : Nat} (hs : a.eval s = v) (hown : OwnT w base v ts) (hx : a.eval x = .slice (some ⟨g, 0, none⟩) 1 cap) (hg : TokB w g t) (hb : ts.length ≤ 1048576) (hbase : base ≤ w.heap.size)
    (h : ∀ v' w', OwnT w' base v' (ts ++ [t]) → w.grownBy w' v.ownBlock → (v'.ownBlock = v.ownBlock ∨ v'.ownBlock = some w.heap.size) → wpList Tryd.prog ops Q rest (a.put o.dst v') w') : wpList Tryd.prog ops Q (o :: rest) a w := by
  refine wpList_step fun K hK => ?_
  rw [if_pos hw]
  obtain ⟨v', w', hr, h2, h3, h4⟩ := run_appendT o.type hown hg hb hbase (cap := cap)
  unfold Oper.wp execOp
  simp only [ho, resolve, invoke, builtin, Sem.run_bind, Sem.run_pure, Result.andThen_ok, List.map_toArray, List.map_cons, List.map_nil, hs, hx, hr]
  exact hK _ _ (h v' w' h2 h3 h4)
/-- where the document's Tokens stands at the head of its loop -/
def RToksI (w : World) (zs : List Nat) (wr : World) (lv : Value) (a : Nat) : Prop :=
  ∃ ts f, OwnT wr w.heap.size lv ts ∧ Below w.heap.size w wr ∧ a ≤ zs.length ∧ ts.length ≤ a ∧ zs.length - a ≤ f ∧
    Sc.toksF (zs.length + 1) 0 zs = Sc.pre ts (Sc.tailT f a (zs.drop a))
set_option maxRecDepth 100000 in
set_option maxHeartbeats 1000000 in
theorem rTokens_any {w : World} {v : Value} {zs : List Nat} (ht : RTabs w) (hs : Sl w v zs) :
    Calls Tryd.prog 5 #[v] w fun e w' => ∃ lv, e = .returned (.tuple #[lv, .int .i64 ((Sc.tokens zs).2.1 : Nat), .int .i64 ((Sc.tokens zs).2.2 : Nat)]) ∧ OwnT w' w.heap.size lv (Sc.tokens zs).1 ∧ Below w.heap.size w w' := by
  have hlen := hs.len
  unfold maxLen at hlen
  by_cases hbig : 1048576 < zs.length
  · have e : Sc.tokens zs = ([], 0, 3) := by unfold Sc.tokens; rw [if_pos hbig]
    rw [e]
    obtain ⟨ao, cap, rfl, _⟩ := hs
    clear ht e
    go_enter Tryd.func5, Tryd.ntmps5
    go_wp2
    go_ret3
    exact ⟨_, rfl, OwnT.nil _ _, Below.refl _ _⟩
  · have HT : Hid (RTabs w) := ht
    have hmax : zs.length ≤ 1048576 := by omega
    have hcv := conv_str hs
    have hsb := sb_mkS hs.small
    have hss := mkS_size zs
    obtain ⟨s, hsd⟩ : ∃ s, s = mkS zs := ⟨_, rfl⟩
    rw [← hsd] at hcv hsb hss
    have HSb : Hid (sb s = zs) := hsb
    have HE : Hid (Sc.tokens zs = Sc.tokRes (Sc.toksF (zs.length + 1) 0 zs)) := Sc.tokens_eq hbig
    have hsz : s.size ≤ 1048576 := by omega
    have HBk : Hid (∀ W a, a ≤ zs.length → Calls Tryd.prog 21 #[.string s, .int .i64 (a : Int)] W fun e w' => e = .returned (.int .i64 ((a + skipN false (zs.drop a) : Nat) : Int)) ∧ W = w') := fun W a h => by
      have := rBlank_any s (a := a) (by omega) hsz W
      rw [hsb] at this
      exact this
    have HLx : Hid (∀ W a, Below w.heap.size w W → a < zs.length → Calls Tryd.prog 22 #[.string s, .int .i64 (a : Int)] W fun e w' => e = .returned (rlexV a (lexF (zs.drop a))) ∧ Below W.heap.size W w') := fun W a hW h => by
      have := rLexeme_any (HT.out.below hW) s (a := a) (by omega) hsz
      rw [hsb] at this
      exact this
    have HI0 : Hid (RToksI w zs w (.slice none 0 0) (skipN false zs)) := by
      refine ⟨[], zs.length, OwnT.nil _ _, Below.refl _ _, ?_, by simp, by omega, ?_⟩
      · exact Sc.skipN_le false zs
      · rw [Sc.toksF_tail, Nat.zero_add]
        cases Sc.tailT zs.length (Sc.skipN false zs) (zs.drop (Sc.skipN false zs)) <;> rfl
    obtain ⟨ao, cap, rfl, _⟩ := id hs
    clear ht hs hsb hsd
    go_enter Tryd.func5, Tryd.ntmps5
    go_wp2_with fail
    refine (HBk.out _ 0 (by omega)).mono ?_
    rintro e w1 ⟨rfl, rfl⟩
    go_wp2_with fail
    go_loopw [6, 7] (fun lv iv wr => ∃ a : Nat, iv = .int .i64 (a : Int) ∧ Hid (RToksI w zs wr lv a)) (fun _ iv _ => zs.length - (intOf iv).toNat)
    case atStart => exact ⟨_, rfl, HI0⟩
    case round =>
      obtain ⟨a, rfl, HI⟩ := hrel
      obtain ⟨ts, f, ho, hb, ha, hts, hf, hE⟩ := HI.out
      have HEq : Hid (Sc.toksF (zs.length + 1) 0 zs = Sc.pre ts (Sc.tailT f a (zs.drop a))) := hE
      clear hE HI0 HI
      by_cases hlt : a < zs.length
      · have hne : zs.drop a ≠ [] := fun e => by have := congrArg List.length e; simp at this; omega
        have il : (a : Int) < (s.size : Int) := by omega
        have HL : Hid (Calls Tryd.prog 22 #[.string s, .int .i64 (a : Int)] wr fun e w' => e = .returned (rlexV a (lexF (zs.drop a))) ∧ Below wr.heap.size wr w') := HLx.out wr a hb hlt
        go_wp2_with fail
        refine HL.out.mono ?_
        rintro e w2 ⟨rfl, hb2⟩
        have HB2 : Hid (Below w.heap.size w w2) := hb.trans (hb2.mono hb.size)
        have HO2 : Hid (OwnT w2 w.heap.size u6 ts) := ho.below hb2
        clear HL hb2
        cases hx : Sc.lexF (zs.drop a) with
        | bad k =>
          have HR : Hid (Sc.tokens zs = ([], a + k, 60)) := by
            show _ = _
            rw [HE.out, HEq.out, Sc.tail_bad hne hx]
            rfl
          clear hx
          unfold rlexV tokV
          go_wp2_with fail
          go_ret3
          rw [HR.out]
          exact ⟨_, rfl, OwnT.nil _ _, HB2.out.alloc HB2.out.size _⟩
        | ok x k =>
          obtain ⟨hk1, hk2⟩ := Sc.lex_len hx
          rw [List.length_drop] at hk2
          have hlt2 : a + k ≤ zs.length := by omega
          obtain ⟨f', rfl⟩ : ∃ f', f = f' + 1 := ⟨f - 1, by omega⟩
          have htl := Sc.tail_ok (f := f') (a := a) hne hx
          have HEq2 : Hid (Sc.toksF (zs.length + 1) 0 zs = Sc.pre (ts ++ [⟨x.1, x.2.1, x.2.2, a, a + k⟩]) (Sc.tailT f' (a + k + Sc.skipN false (zs.drop (a + k))) (zs.drop (a + k + Sc.skipN false (zs.drop (a + k)))))) := by
            show _ = _
            rw [HEq.out, htl, Sc.pre_pre, List.drop_drop, List.drop_drop, Nat.add_assoc]
          have hsk := Sc.skipN_le false (zs.drop (a + k))
          rw [List.length_drop] at hsk
          clear hx htl HEq
          have hT1 : TokB (w2.alloc (.cells #[.int .i64 (x.1 : Int), .int .u64 (x.2.1 : Int), .string (mkS x.2.2), .int .i64 (a : Int), .int .i64 ((a : Int) + (k : Int))] 38)) w2.heap.size ⟨x.1, x.2.1, x.2.2, a, a + k⟩ := heap_alloc_new w2 _
          obtain ⟨WA, hWA⟩ : ∃ WA, w2.alloc (.cells #[.int .i64 (x.1 : Int), .int .u64 (x.2.1 : Int), .string (mkS x.2.2), .int .i64 (a : Int), .int .i64 ((a : Int) + (k : Int))] 38) = WA := ⟨_, rfl⟩
          have hsA : WA.heap.size = w2.heap.size + 1 := by rw [← hWA]; simp
          have hT2 : TokB (WA.alloc (.cells #[.int .i64 (x.1 : Int), .int .u64 (x.2.1 : Int), .string (mkS x.2.2), .int .i64 (a : Int), .int .i64 ((a : Int) + (k : Int))] 38)) (w2.heap.size + 1) ⟨x.1, x.2.1, x.2.2, a, a + k⟩ := by
            have h : TokB (WA.alloc (.cells #[.int .i64 (x.1 : Int), .int .u64 (x.2.1 : Int), .string (mkS x.2.2), .int .i64 (a : Int), .int .i64 ((a : Int) + (k : Int))] 38)) WA.heap.size ⟨x.1, x.2.1, x.2.2, a, a + k⟩ := heap_alloc_new WA _
            rw [hsA] at h
            exact h
          have hbA : Below w2.heap.size w2 WA := hWA ▸ (Below.refl _ _).alloc (Nat.le_refl _) _
          have hbB : Below w2.heap.size w2 (WA.alloc (.cells #[.int .i64 (x.1 : Int), .int .u64 (x.2.1 : Int), .string (mkS x.2.2), .int .i64 (a : Int), .int .i64 ((a : Int) + (k : Int))] 38)) := hbA.alloc (by omega) _
          rw [← hWA] at hT2 hbB
          have HT2 : Hid (TokB ((w2.alloc (.cells #[.int .i64 (x.1 : Int), .int .u64 (x.2.1 : Int), .string (mkS x.2.2), .int .i64 (a : Int), .int .i64 ((a : Int) + (k : Int))] 38)).alloc (.cells #[.int .i64 (x.1 : Int), .int .u64 (x.2.1 : Int), .string (mkS x.2.2), .int .i64 (a : Int), .int .i64 ((a : Int) + (k : Int))] 38)) (w2.heap.size + 1) ⟨x.1, x.2.1, x.2.2, a, a + k⟩) := hT2
          have HOB : Hid (OwnT ((w2.alloc (.cells #[.int .i64 (x.1 : Int), .int .u64 (x.2.1 : Int), .string (mkS x.2.2), .int .i64 (a : Int), .int .i64 ((a : Int) + (k : Int))] 38)).alloc (.cells #[.int .i64 (x.1 : Int), .int .u64 (x.2.1 : Int), .string (mkS x.2.2), .int .i64 (a : Int), .int .i64 ((a : Int) + (k : Int))] 38)) w.heap.size u6 ts) := HO2.out.below hbB
          have HBB : Hid (Below w.heap.size w ((w2.alloc (.cells #[.int .i64 (x.1 : Int), .int .u64 (x.2.1 : Int), .string (mkS x.2.2), .int .i64 (a : Int), .int .i64 ((a : Int) + (k : Int))] 38)).alloc (.cells #[.int .i64 (x.1 : Int), .int .u64 (x.2.1 : Int), .string (mkS x.2.2), .int .i64 (a : Int), .int .i64 ((a : Int) + (k : Int))] 38))) := HB2.out.trans (hbB.mono HB2.out.size)
          have HEn : Hid (((w2.alloc (.cells #[.int .i64 (x.1 : Int), .int .u64 (x.2.1 : Int), .string (mkS x.2.2), .int .i64 (a : Int), .int .i64 ((a : Int) + (k : Int))] 38)).alloc (.cells #[.int .i64 (x.1 : Int), .int .u64 (x.2.1 : Int), .string (mkS x.2.2), .int .i64 (a : Int), .int .i64 ((a : Int) + (k : Int))] 38)).cell? ⟨w2.heap.size, 4, none⟩ = some (.int .i64 ((a : Int) + (k : Int)))) := cell_keeps (S := fun _ => False) (b := w2.heap.size) (i := 4) hT1.cells.2.2.2.2 (Keeps.of_below ((Below.refl _ _).alloc (Nat.le_refl _) _)) (fun e => e)
          have HNe : Hid (¬ u6.ownBlock = some w2.heap.size) := fun e => by have := (HO2.out.lt _ e).2; omega
          clear hT1 hWA hsA hT2 hbA hbB
          unfold rlexV tokV
          go_wp2_with (at_builtin; refine wpList_appendT (v := u6) (.tmp 30) (.tmp 32) (by rfl) rfl ⟨x.1, x.2.1, x.2.2, a, a + k⟩ (g := w2.heap.size + 1) (cap := 1) rfl HOB.out rfl HT2.out (by omega) HBB.out.size ?_; intro v3 w3 h3 g3 l3; have HO3 : Hid (OwnT w3 w.heap.size v3 (ts ++ [⟨x.1, x.2.1, x.2.2, a, a + k⟩])) := h3; have HG3 : Hid (((w2.alloc (.cells #[.int .i64 (x.1 : Int), .int .u64 (x.2.1 : Int), .string (mkS x.2.2), .int .i64 (a : Int), .int .i64 ((a : Int) + (k : Int))] 38)).alloc (.cells #[.int .i64 (x.1 : Int), .int .u64 (x.2.1 : Int), .string (mkS x.2.2), .int .i64 (a : Int), .int .i64 ((a : Int) + (k : Int))] 38)).grownBy w3 u6.ownBlock) := g3; have c4 := cell_keeps HEn.out (Keeps.of_grown g3) HNe.out; clear h3 g3 l3)
          refine (HBk.out _ (a + k) hlt2).mono ?_
          rintro e w4 ⟨rfl, rfl⟩
          have HB3 : Hid (Below w.heap.size w w3) := HBB.out.grown HG3.out HBB.out.size (fun q hq => (HO2.out.lt q hq).1)
          go_wp2_with fail
          exact ⟨⟨a + k + skipN false (zs.drop (a + k)), rfl, ts ++ [⟨x.1, x.2.1, x.2.2, a, a + k⟩], f', HO3.out, HB3.out, by omega, by simp; omega, by omega, HEq2.out⟩, by simp [intOf]; omega⟩
      · have hnil : zs.drop a = [] := List.drop_eq_nil_of_le (by omega)
        have il : ¬ (a : Int) < (s.size : Int) := by omega
        have HR : Hid (Sc.tokens zs = (ts, 0, 0)) := by
          show _ = _
          rw [HE.out, HEq.out, Sc.tail_end hnil]
          simp [Sc.pre, Sc.tokRes]
        have HO : Hid (OwnT wr w.heap.size u6 ts) := ho
        clear ho HEq
        go_wp2_with fail
        go_ret3
        rw [HR.out]
        exact ⟨_, rfl, HO.out, hb⟩
end Go.Proofs.YtlhecgokedckdaaDoor
