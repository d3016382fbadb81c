import Derived.Test.YtmfkggngjeolcaaGreatDoorPk11
import Derived.OrdersHeld
import Derived.Deep.DeepCutAuto
import Derived.Deep.CutBlock
set_option linter.unusedSimpArgs false
set_option linter.unusedVariables false
set_option maxHeartbeats 8000000
set_option maxRecDepth 100000
namespace Go.Proofs.YtmfkggngjeolcaaGreatDoor
open Go.RowKit
section
variable {P : Program} {ops : Array Oper} {Q : Exit → Act → World → Prop} {md : Region.Mode} {S : World → Prop} {J : Nat}
def wpAnyJ (P : Program) (md : Region.Mode) (ops : Array Oper) (Q : Exit → Act → World → Prop) (S : World → Prop) (J : Nat) : Nat → Array Bool → Act → World → Prop
 | 0, listed, a, w => Region.ready md ops listed = [] ∧ Q .normal a w
 | fuel + 1, listed, a, w =>
  (Region.ready md ops listed = [] → Q .normal a w) ∧
  ∀ i ∈ Region.ready md ops listed, wpOp P ops Q i (fun a' w' => (i ≠ J → listed.getD J false = false → S w') ∧ wpAnyJ P md ops Q S J fuel (listed.setIfInBounds i true) a' w') a w
theorem wpAny_of_J : ∀ (fuel : Nat) (listed : Array Bool) (a : Act) (w : World), wpAnyJ P md ops Q S J fuel listed a w → wpAny P md ops Q fuel listed a w
 | 0, _, _, _, h => h
 | fuel + 1, _, _, _, h => ⟨h.1, fun i hi => wpOp_mono (fun a' w' h' => wpAny_of_J fuel _ a' w' h'.2) (h.2 i hi)⟩
def ClJ (md : Region.Mode) (ops : Array Oper) (listed : Array Bool) : Prop := ∀ k o, ops[k]? = some o → listed.getD k false = true → ∀ e ∈ o.after, Region.binds md e = true → listed.getD e.on false = true
def clB (md : Region.Mode) (ops : Array Oper) (listed : Array Bool) : Bool := (List.range ops.size).all fun k => !listed.getD k false || ((ops[k]?).map (·.after.all fun e => !Region.binds md e || listed.getD e.on false)).getD true
theorem ClJ.of {listed : Array Bool} (h : clB md ops listed = true) : ClJ md ops listed := fun k o ho hl e he hb => by
 unfold clB at h;rw [List.all_eq_true] at h;have h1 := h k (List.mem_range.2 (Array.getElem?_eq_some_iff.1 ho).1);rw [hl] at h1;simp only [Bool.not_true, Bool.false_or, ho, Option.map_some, Option.getD_some, Array.all_eq_true_iff_forall_mem] at h1;have h2 := h1 e he;rw [hb] at h2
 simpa using h2
theorem ClJ.step {listed : Array Bool} {j : Nat} (h : ClJ md ops listed) (hj : j ∈ Region.ready md ops listed) : ClJ md ops (listed.setIfInBounds j true) := fun k o ho hl e he hb => by
 by_cases hjk : j = k
 ·subst hjk;obtain ⟨_, o', ho', hall⟩ := mem_ready.1 hj;rw [ho] at ho'
  cases ho'
  exact getD_set_true (hall e he hb)
 ·rw [getD_set_ne false hjk] at hl;exact getD_set_true (h k o ho hl e he hb)
def ancJ (md : Region.Mode) (ops : Array Oper) (J : Nat) : Bool := (List.range J).all fun i => (List.range (J + 1)).any fun k => decide (i < k) && ((ops[k]?).map (·.after.any fun e => Region.binds md e && e.on == i)).getD false
theorem anc_listed {listed : Array Bool} (hA : ancJ md ops J = true) (hc : ClJ md ops listed) (hJ : J ∈ Region.ready md ops listed) : ∀ d i, i < J → J - i ≤ d → listed.getD i false = true
 | 0, i, hi, hd => by omega
 | d + 1, i, hi, hd => by
  have hA0 := hA;unfold ancJ at hA;rw [List.all_eq_true] at hA;have h1 := hA i (List.mem_range.2 hi);rw [List.any_eq_true] at h1;obtain ⟨k, hk, h2⟩ := h1;rw [Bool.and_eq_true] at h2;have hik : i < k := of_decide_eq_true h2.1;have hkJ : k ≤ J := by have := List.mem_range.1 hk; omega
  cases ho : ops[k]? with
  | none => rw [ho] at h2; simp at h2
  | some o =>
   rw [ho] at h2;simp only [Option.map_some, Option.getD_some] at h2;obtain ⟨e, he, h3⟩ := Array.any_eq_true'.1 h2.2;rw [Bool.and_eq_true, beq_iff_eq] at h3
   by_cases hkj : k = J
   ·subst hkj;obtain ⟨_, o', ho', hall⟩ := mem_ready.1 hJ;rw [ho] at ho'
    cases ho'
    rw [← h3.2];exact hall e he h3.1
   ·have := anc_listed hA0 hc hJ d k (by omega) (by omega);rw [← h3.2];exact hc k o ho this e he h3.1
theorem wpAnyJ_first {i : Nat} {oi : Oper} {v : Value} (hA : ancJ md ops J = true) (hiJ : i < J) (hi : ops[i]? = some oi) (hsel : ∀ (j : Nat) (o : Oper) cs b, ops[j]? = some o → o.op ≠ .select cs b)
  (hQ : ∀ c a w, Q (.panic c) (a.put oi.dst v) w → Q (.panic c) a w) :
  ∀ (fuel : Nat) (listed : Array Bool) (a : Act) (w : World), ClJ md ops listed → listed.getD J false = false →
   (∀ j oj, ops[j]? = some oj → j ≠ i → listed.getD j true = false → (∀ e ∈ oj.after, Region.binds md e = true → e.on ≠ i) → oi.apart ops oj = true) →
   i ∈ Region.ready md ops listed → YieldsIf P ops S oi v a → S w →
   wpAnyJ P md ops Q S J fuel (listed.setIfInBounds i true) (a.put oi.dst v) w → wpAnyJ P md ops Q S J (fuel + 1) listed a w := by
 intro fuel
 induction fuel with
 | zero =>
  intro listed a w _ _ _ hr hy hS H;refine ⟨fun h => (by rw [h] at hr; cases hr), fun j hj => ?_⟩
  by_cases hji : j = i
  ·subst hji; exact hy.wpOp hi hS ⟨fun _ _ => hS, H⟩
  ·have := ready_mono hj hji;rw [H.1] at this
   cases this
 | succ fuel ih =>
  intro listed a w hcl hJf hfree hr hy hS H;refine ⟨fun h => (by rw [h] at hr; cases hr), fun j hj => ?_⟩
  by_cases hji : j = i
  ·subst hji; exact hy.wpOp hi hS ⟨fun _ _ => hS, H⟩
  ·have hjJ : j ≠ J := fun e => by
    subst e;have h1 := anc_listed hA hcl hj (j - i) i hiJ (Nat.le_refl _);have h0 := (mem_ready.1 hr).1;rcases Nat.lt_or_ge i listed.size with h' | h'
    ·simp [h'] at h0 h1; rw [h0] at h1; cases h1
    ·simp [Array.getElem?_eq_none h'] at h1
   have h1 := H.2 j (ready_mono hj hji);obtain ⟨hjun, oj, hoj, hall⟩ := mem_ready.1 hj;have hnot : ∀ e ∈ oj.after, Region.binds md e = true → e.on ≠ i := fun e he hb heq => by
    have h1 := hall e he hb;have h0 := (mem_ready.1 hr).1;rw [heq] at h1;rcases Nat.lt_or_ge i listed.size with h' | h'
    ·simp [h'] at h0 h1; rw [h0] at h1; cases h1
    ·simp [Array.getElem?_eq_none h'] at h1
   have h2 := wpOp_putIf hoj (hfree j oj hoj hji hjun hnot) (fun cs b => hsel i oi cs b hi) (fun cs b => hsel j oj cs b hoj) hQ hy h1;have hfree' : ∀ k ok, ops[k]? = some ok → k ≠ i → (listed.setIfInBounds j true).getD k true = false →
     (∀ e ∈ ok.after, Region.binds md e = true → e.on ≠ i) → oi.apart ops ok = true := fun k ok hk hki hun hno => by
    refine hfree k ok hk hki ?_ hno
    by_cases hjk : j = k
    ·subst hjk; exact hjun
    ·rw [getD_set_ne true hjk] at hun; exact hun
   have hJi : (listed.setIfInBounds i true).getD J false = false := by rw [getD_set_ne false (by omega)]; exact hJf
   refine wpOp_mono (fun a' w' h3 => ⟨fun _ _ => h3.2.1 hjJ hJi, ih (listed.setIfInBounds j true) a' w' (hcl.step hj) (by rw [getD_set_ne false hjJ]; exact hJf) hfree' (ready_mono hr (Ne.symm hji)) h3.1 (h3.2.1 hjJ hJi) ?_⟩) h2;rw [Array.setIfInBounds_comm _ _ hji];exact h3.2.2
theorem takeJ {i d : Nat} {oi : Oper} (v : Value) {fuel : Nat} {listed : Array Bool} {a : Act} {w : World} (hA : ancJ md ops J = true) (hiJ : i < J) (hi : ops[i]? = some oi) (hd : oi.dst = some d)
  (hs : Region.noSelect ops = true) (hf : Region.free md ops listed i = true) (hr : (Region.ready md ops listed).contains i = true) (hc : clB md ops listed = true) (hJf : listed.getD J false = false)
  (hQ : ∀ c a w, Q (.panic c) (a.put (some d) v) w → Q (.panic c) a w) (hS : S w) (hw : Region.wanted oi (yielded ops a.tmps) = true) (hy : ∀ w, S w → (execOp a.eval oi).run P w = .ok (.value v) w)
  (h : wpAnyJ P md ops Q S J fuel (listed.setIfInBounds i true) (a.put (some d) v) w) : wpAnyJ P md ops Q S J (fuel + 1) listed a w := by
 rw [← hd] at h hQ;exact wpAnyJ_first hA hiJ hi (Region.noSelect_spec hs) hQ fuel listed a w (ClJ.of hc) hJf (Region.free_spec hi hf) (by simpa using hr) (.inl ⟨hw, hy⟩) hS h
theorem takeL {P : Program} {md : Region.Mode} {ops : Array Oper} {Q : Exit → Act → World → Prop} {S : World → Prop} {J : Nat} (i d : Nat) (v : Value) {oi : Oper} {fuel : Nat} {listed : Array Bool} {a a' : Act} {w : World} (hA : ancJ md ops J = true) (hS : S w)
  (h : wpAnyJ P md ops Q S J fuel (listed.setIfInBounds i true) a' w) (hiJ : i < J := by decide) (hi : ops[i]? = some oi := by rfl) (hd : oi.dst = some d := by rfl)
  (ha : a.put (some d) v = a' := by simp only [Act.put, List.setIfInBounds_toArray, List.set_cons_zero, List.set_cons_succ]; rfl)
  (hs : Region.noSelect ops = true := by kernel_rfl) (hf : Region.free md ops listed i = true := by kernel_rfl) (hr : (Region.ready md ops listed).contains i = true := by kernel_rfl) (hc : clB md ops listed = true := by kernel_rfl) (hJf : listed.getD J false = false := by kernel_rfl)
  (hQ : ∀ c a w, Q (.panic c) (a.put (some d) v) w → Q (.panic c) a w := by exact fun _ _ _ h => h) (hw : Region.wanted oi (yielded ops a.tmps) = true := by rfl)
  (hy : ∀ w, S w → (execOp a.eval oi).run P w = .ok (.value v) w := by intro wz hz; (try dsimp only at hz); go_simp) : wpAnyJ P md ops Q S J (fuel + 1) listed a w :=
 takeJ v hA hiJ hi hd hs hf hr hc hJf hQ hS hw hy (ha ▸ h)
theorem callJ {i d : Nat} {o : Oper} {fuel : Nat} {listed : Array Bool} {a : Act} {w : World} (hr : Region.ready md ops listed = [i]) (hi : ops[i]? = some o) (hd : o.dst = some d) (hw : Region.wanted o (yielded ops a.tmps) = true)
  (f : FuncId) (xs : Array Operand) (ats : Array TypeId) (ho : o.op = .call { callee := .value (.func f), args := xs, argTypes := ats }) (he : ∀ args w, (callFunc f args).run P w = .ok (.enter f args) w) (args : Array Value) (hargs : #[] ++ xs.map a.eval ++ #[] = args) {R : Value → World → Prop}
  (hc : Calls P f args w fun e w' => ∃ v, e = .returned v ∧ R v w') (hS : ∀ v w', R v w' → i ≠ J → listed.getD J false = false → S w') (hK : ∀ v w', R v w' → wpAnyJ P md ops Q S J fuel (listed.setIfInBounds i true) (a.put (some d) v) w') : wpAnyJ P md ops Q S J (fuel + 1) listed a w := by
 rw [← hd] at hK;refine ⟨fun h => (by rw [hr] at h; cases h), fun j hj => ?_⟩;rw [hr] at hj;obtain rfl := List.mem_singleton.1 hj;exact wpOp_step hi (fun K' hK' => step_call3 hw f xs ats ho he args hargs hc (fun v w' hR => hK' _ _ ⟨hS v w' hR, hK v w' hR⟩))
theorem doneJ {listed : Array Bool} {a : Act} {w : World} (hr : Region.ready md ops listed = []) (h : Q .normal a w) : ∀ fuel, wpAnyJ P md ops Q S J fuel listed a w
 | 0 => ⟨hr, h⟩
 | _ + 1 => ⟨fun _ => h, by rw [hr]; simp⟩
theorem regionJ {id : Nat} {a : Act} {w : World} (S : World → Prop) (J : Nat) (hm : P.follows .mixedOrders = true) (hA : ancJ .any ops J = true) (hS : S w.drew)
  (h : S w.drew → ancJ .any ops J = true → wpAnyJ P .any ops Q S J ops.size (Array.replicate ops.size false) a w.drew) : (Code.region id ops true).wp P Q a w :=
 wp_region_any hm (wpAny_of_J _ _ _ _ (h hS hA))
end
end Go.Proofs.YtmfkggngjeolcaaGreatDoor
namespace Go.Proofs.YtmfkggngjeolcaaGreatDoor
open Go.RowKit Bn
theorem up_le (a : Nat) : upN a 8 ≤ a + 7 ∧ a ≤ upN a 8 := by
 unfold upN
 split <;> omega
theorem up_le4 (a : Nat) : upN a 4096 ≤ a + 4095 ∧ a ≤ upN a 4096 := by
 unfold upN
 split <;> omega
theorem pad_len (s : S) : (padS 8 s).1.length = upN s.1.length 8 := by
 rw [padS, zeros_len];have := up_le s.1.length;omega
theorem text_len (t : ByteArray) (s : S) : (textS t s).1.length ≤ s.1.length + 4 + (bts t).length + 7 := by
 rw [textS, pad_len];have h := (up_le (bytesS (bts t) (wordS (t.size : Int) (askS (decide (t.size ≤ 1048576)) 3 s))).1.length).1;rw [bytes_len, word_len, ask_len] at *;exact h
theorem bts_len (t : ByteArray) : (bts t).length = t.size := by simp [bts]
theorem bts_small (t : ByteArray) : ∀ z ∈ bts t, z < 256 := by
 intro z hz;obtain ⟨u, _, rfl⟩ := List.mem_map.1 hz;exact u.toNat_lt
theorem wpList_bytesOf {w : World} {ops : Array Oper} {rest : List Oper} {oo : Oper} {a : Act} {Q : Exit → Act → World → Prop} (hgd : oo.guard = none) (x : Operand) (ho : oo.op = .convert 9 43 x) {t : ByteArray} (hx : a.eval x = .string t) (ht : t.size ≤ 4000000)
  (h : ∀ va vn vc w', Hid (Sl w' (.slice va vn vc) (bts t)) → Hid (Below w.heap.size w w') → wpList Tryz.prog ops Q rest (a.put oo.dst (.slice va vn vc)) w') : wpList Tryz.prog ops Q (oo :: rest) a w :=
 wpList_plain hgd fun K hK => by
  have hr := run_bytes_of_string (P := Tryz.prog) w 9 43 5 t Tryz.underlying9 Tryz.underlying43 Tryz.underlying5;obtain ⟨c, hc⟩ : ∃ c, grownCap w t.size 0 5 = c := ⟨_, rfl⟩
  have hc1 : t.size ≤ c := hc ▸ grownCap_ge w t.size 0 5;have hc2 : c ≤ maxLen := hc ▸ grownCap_le_maxLen w t.size 0 5 (by unfold maxLen; omega);rw [hc] at hr;unfold Oper.wp execOp;simp only [ho, hx, Sem.run_bind, Sem.run_pure, Result.andThen_ok, hr];refine hK _ _ (h _ _ _ _ ?_ ?_)
  ·refine ⟨_, c, by rw [bts_len], by rw [bts_len]; exact hc1, hc2, bts_small t, (fun e => by cases e), fun i hi => ⟨w.heap.size, 0, rfl, ?_⟩⟩;rw [bts_len] at hi;have hb : (w.drew.alloc (.cells (bytesRow t c) 5 ((bytesRow t c).size, (bytesRow t c).size + 1))).heap[w.heap.size]? = some (.cells (bytesRow t c) 5 ((bytesRow t c).size, (bytesRow t c).size + 1)) := heap_alloc_new w.drew _;unfold World.cell?;simp only [hb, Nat.zero_add];have hi' : i < t.data.size := hi;rw [bytesRow_at t c i hi'];simp only [bts, List.getD, List.getElem?_map, Array.getElem?_toList, Array.getElem?_eq_getElem hi']
   rfl
  ·exact ⟨rfl, rfl, rfl, by simp [World.alloc], fun k hk => Below.heap_alloc w.drew _ k hk⟩
section
variable {B kb : Nat} {im : List Value} {o : Option Nat} {en : List Value} {w0 : World} {s : S} {w : World}
theorem textX (h : Sx B kb im o en w0 s w) {t : ByteArray} (ht : t.size ≤ 4000000) (hl : s.1.length ≤ 270000000000) : Calls Tryz.prog 94 #[.pointer (some ⟨kb, 0, none⟩), .string t] w fun e w' => e = .returned (.tuple #[]) ∧ Sx B kb im o en w0 (textS t s) w' := by
 have HL : Hid (s.1.length ≤ 270000000000) := hl;have HC := Lib.hid (askX h (decide (t.size ≤ 1048576)) 3);have hd : decide ((t.size : Int) ≤ 1048576) = decide (t.size ≤ 1048576) := by
  by_cases h : t.size ≤ 1048576
  ·rw [decide_eq_true h]; exact decide_eq_true (by omega)
  ·rw [decide_eq_false h]; exact decide_eq_false (by omega)
 clear h hl;obtain ⟨m, hm⟩ : ∃ m, t.size = m := ⟨_, rfl⟩
 rw [hm] at hd HC ht;have HM := Lib.hid hm;obtain ⟨bb, hbb⟩ : ∃ bb, decide (m ≤ 1048576) = bb := ⟨_, rfl⟩
 rw [hbb] at hd HC;go_enter Tryz.func94, Tryz.ntmps94
 go_wp2_with fail
 refine HC.out.mono ?_;rintro e w1 ⟨rfl, h1⟩;have HC1 := Lib.hid (wordX h1 (k := (m : Int)) ⟨by omega, by omega⟩ (by rw [ask_len]; have := HL.out; omega));clear h1 HC;go_wp2_with fail
 refine HC1.out.mono ?_;rintro e w2 ⟨rfl, h2⟩;obtain ⟨s2, hs2⟩ : ∃ s2, wordS (m : Int) (askS bb 3 s) = s2 := ⟨_, rfl⟩
 rw [hs2] at h2;have HL2 : Hid (s2.1.length ≤ 270000000004) := show _ ≤ _ by rw [← hs2, word_len, ask_len]; have := HL.out; omega
 have hl2 : s2.1.length ≤ 270000000004 := HL2.out;obtain ⟨c12, c13, c59⟩ := St.cells h2;have f13 := St.free h2 13;have hw1 : IntKind.i64.wrap ((s2.1.length : Int) + (m : Int)) = ((s2.1.length + m : Nat) : Int) := by rw [IntKind.wrap_i64]; omega
 have h3 := St.setAt h2 (s2.1.length + m);have H3 := Lib.hid h3;have c12' := h3.cells.1;have HE : Hid (padS 8 (bytesS (bts t) s2) = textS t s) := show _ = _ by rw [textS, HM.out, hbb, hs2]
 clear h2 h3 HC1 hs2 hl2;obtain ⟨L, hL⟩ : ∃ L, s2.1.length = L := ⟨_, rfl⟩
 have HLz : Hid (s2.1.length = L) := hL;rw [hL] at c13 hw1 H3 c12' HL2;rw [Int.natCast_add] at H3 c12' hw1;clear hL
 cases o with
 | none =>
  simp only [outV, Option.map] at c12 c12';go_upto_region 5 with fail
  obtain ⟨s3, hs3⟩ : ∃ s3, bytesS (bts t) s2 = s3 := ⟨_, rfl⟩
  have HS3 : Hid (bytesS (bts t) s2 = s3) := hs3;have HNz : Hid (s3.1.length = L + m) := show _ = _ by rw [← hs3, bytes_len, bts_len, HLz.out, HM.out]
  have H4 : Hid (Sx B kb im none en w0 s3 _) := Lib.hid (show St _ _ _ _ _ _ s3.1.length s3.1 s3.2 _ by rw [HNz.out, ← hs3]; exact H3.out.ghost (bts_small t));have HNl : Hid (L + m ≤ 270004000004) := show _ ≤ _ by have := HL2.out; omega
  clear hs3 H3;generalize w2.setCell ⟨kb, 13, none⟩ (.int .i64 ((L : Int) + (m : Int))) = Wx at H4 ⊢;generalize L + m = N at *;have HC0 : Hid (Wx.drew.cell? ⟨kb, 13, none⟩ = some (.int .i64 (N : Int))) := by
   have := (St.below H4.out (w' := Wx.drew) ⟨rfl, rfl, rfl, Nat.le_refl _, fun _ _ => rfl⟩).cells.2.1;rw [HNz.out] at this;exact Lib.hid this
  have HD4 : Hid (Sx B kb im none en w0 s3 Wx.drew) := Lib.hid (St.below H4.out (w' := Wx.drew) ⟨rfl, rfl, rfl, Nat.le_refl _, fun _ _ => rfl⟩);have HEn1 := Lib.hid (enters_of Tryz.func98 (by kernel_rfl) rfl);have HEn2 := Lib.hid (enters_of Tryz.func56 (by kernel_rfl) rfl);have hN := HNl.out;have hu := up_le N;obtain ⟨u, hu9⟩ : ∃ u, upN N 8 = u := ⟨_, rfl⟩
  rw [hu9] at hu;have HU : Hid (∀ W, Calls Tryz.prog 98 #[.int .i64 (N : Int), .int .i64 8] W fun e w' => ∃ v, e = .returned v ∧ v = .int .i64 (u : Int) ∧ w' = W) := fun W => (upX (a := N) (al := 8) (by decide) (by omega) (by decide) W).mono (fun e w' h => ⟨_, h.1, by rw [hu9], h.2⟩);have hsub : IntKind.i64.wrap ((u : Int) - (N : Int)) = ((u - N : Nat) : Int) := by rw [IntKind.wrap_i64]; omega
  have HZ : Hid (Calls Tryz.prog 56 #[.pointer (some ⟨kb, 0, none⟩), .int .i64 ((u - N : Nat) : Int)] Wx.drew fun e w' => ∃ v, e = .returned v ∧ v = .tuple #[] ∧ Sx B kb im none en w0 (zerosS (u - N) s3) w') := (zerosX HD4.out (c := u - N) (by rw [HNz.out]; omega)).mono (fun e w' h => ⟨_, h.1, rfl, h.2⟩);have HEz : Hid (zerosS (u - N) s3 = textS t s) := show _ = _ by
   have e9 := HE.out;rw [padS, HS3.out, HNz.out, hu9] at e9;exact e9
  rw [HEz.out] at HZ;clear HD4 HEz hu9 H4;refine regionJ (fun w' => w'.cell? ⟨kb, 13, none⟩ = some (.int .i64 (N : Int))) 11 (by kernel_rfl) (by kernel_rfl) HC0.out (fun hS hA => ?_);refine takeL 0 34 (Value.pointer (some ⟨kb, 0, none⟩)) hA hS ?_;refine takeL 1 35 (Value.pointer (some ⟨kb, 0, none⟩)) hA hS ?_;refine takeL 2 36 (Value.pointer (some ⟨kb, 0, none⟩)) hA hS ?_;refine takeL 3 37 (Value.pointer (some ⟨kb, 13, none⟩)) hA hS ?_;refine takeL 4 38 (Value.int .i64 (N : Int)) hA hS ?_;refine takeL 6 40 (Value.pointer (some ⟨kb, 0, none⟩)) hA hS ?_;refine takeL 7 41 (Value.pointer (some ⟨kb, 0, none⟩)) hA hS ?_;refine takeL 8 42 (Value.pointer (some ⟨kb, 13, none⟩)) hA hS ?_;refine takeL 9 43 (Value.int .i64 (N : Int)) hA hS ?_;refine callJ (i := 5) (d := 39) (by kernel_rfl) rfl rfl (by rfl) 98 _ _ rfl HEn1.out _ (by simp [Act.eval]) (HU.out _) (fun v w' hR _ _ => ?_) (fun v x1 hR => ?_)
  ·obtain ⟨_, rfl⟩ := hR;exact hS
  obtain ⟨rfl, rfl⟩ := hR;simp only [Act.put, List.setIfInBounds_toArray, List.set_cons_zero, List.set_cons_succ];refine takeL 10 44 (Value.int .i64 ((u - N : Nat) : Int)) hA hS ?_;refine callJ (i := 11) (d := 45) (by kernel_rfl) rfl rfl (by rfl) 56 _ _ rfl HEn2.out _ (by simp [Act.eval]) HZ.out (fun v w' hR h _ => absurd rfl h) (fun v x2 hR => ?_);obtain ⟨rfl, h9⟩ := hR;have H9 := Lib.hid h9;clear h9 HZ hS;simp only [Act.put, List.setIfInBounds_toArray, List.set_cons_zero, List.set_cons_succ];refine doneJ (by kernel_rfl) ?_ _;go_wp2_with fail
  go_end0
  exact ⟨rfl, H9.out⟩
 | some p =>
  simp only [outV, Option.map] at c12 c12';go_upto_region 4 with fail
  obtain ⟨v, hv, hp, hB⟩ := H3.out.wr;have HWr := Lib.hid hv;have HPp : Hid (p ≠ kb ∧ B ≤ p) := ⟨hp, hB⟩
  clear hv hp hB;generalize w2.setCell ⟨kb, 13, none⟩ (.int .i64 ((L : Int) + (m : Int))) = W3 at H3 HWr c12' ⊢;have hm2 : m ≤ 4000000 := ht;go_wp2_with (refine wpList_bytesOf rfl (.tmp 31) rfl (t := t) rfl (by have := HM.out; omega) ?_; intro va vn vc w4 HSl HB4)
  have H4' : Hid (St B kb im (some p) en w0 (L + m) s2.1 s2.2 w4) := H3.out.below HB4.out;have HWr4 : Hid (Wr w4 p v s2.1 0 B) := ⟨(HB4.out.block p HWr.out.lt).trans HWr.out.1, HWr.out.2.1.below HB4.out, HWr.out.2.2⟩
  refine (wbytes_any HWr4.out HSl.out (by have := HLz.out; have := HL2.out; omega) (by rw [bts_len, HM.out]; omega) H4'.out.le).mono ?_;rintro e w5 ⟨rfl, v', hv', hk', _⟩;have H5 := Lib.hid (H4'.out.put HWr4.out HPp.out.1 HPp.out.2 hv' hk');clear hv' hk' H4' HWr4 HSl HB4 HWr H3;go_upto_region 5 with fail
  obtain ⟨s3, hs3⟩ : ∃ s3, bytesS (bts t) s2 = s3 := ⟨_, rfl⟩
  have HS3 : Hid (bytesS (bts t) s2 = s3) := hs3;have HNz : Hid (s3.1.length = L + m) := show _ = _ by rw [← hs3, bytes_len, bts_len, HLz.out, HM.out]
  have H4 : Hid (Sx B kb im (some p) en w0 s3 w5) := Lib.hid (show St _ _ _ _ _ _ s3.1.length s3.1 s3.2 _ by rw [HNz.out, ← hs3]; exact H5.out);have HNl : Hid (L + m ≤ 270004000004) := show _ ≤ _ by have := HL2.out; omega
  clear hs3 H5;generalize w5 = Wx at H4 ⊢;generalize L + m = N at *;have HC0 : Hid (Wx.drew.cell? ⟨kb, 13, none⟩ = some (.int .i64 (N : Int))) := by
   have := (St.below H4.out (w' := Wx.drew) ⟨rfl, rfl, rfl, Nat.le_refl _, fun _ _ => rfl⟩).cells.2.1;rw [HNz.out] at this;exact Lib.hid this
  have HD4 : Hid (Sx B kb im (some p) en w0 s3 Wx.drew) := Lib.hid (St.below H4.out (w' := Wx.drew) ⟨rfl, rfl, rfl, Nat.le_refl _, fun _ _ => rfl⟩);have HEn1 := Lib.hid (enters_of Tryz.func98 (by kernel_rfl) rfl);have HEn2 := Lib.hid (enters_of Tryz.func56 (by kernel_rfl) rfl);have hN := HNl.out;have hu := up_le N;obtain ⟨u, hu9⟩ : ∃ u, upN N 8 = u := ⟨_, rfl⟩
  rw [hu9] at hu;have HU : Hid (∀ W, Calls Tryz.prog 98 #[.int .i64 (N : Int), .int .i64 8] W fun e w' => ∃ v, e = .returned v ∧ v = .int .i64 (u : Int) ∧ w' = W) := fun W => (upX (a := N) (al := 8) (by decide) (by omega) (by decide) W).mono (fun e w' h => ⟨_, h.1, by rw [hu9], h.2⟩);have hsub : IntKind.i64.wrap ((u : Int) - (N : Int)) = ((u - N : Nat) : Int) := by rw [IntKind.wrap_i64]; omega
  have HZ : Hid (Calls Tryz.prog 56 #[.pointer (some ⟨kb, 0, none⟩), .int .i64 ((u - N : Nat) : Int)] Wx.drew fun e w' => ∃ v, e = .returned v ∧ v = .tuple #[] ∧ Sx B kb im (some p) en w0 (zerosS (u - N) s3) w') := (zerosX HD4.out (c := u - N) (by rw [HNz.out]; omega)).mono (fun e w' h => ⟨_, h.1, rfl, h.2⟩);have HEz : Hid (zerosS (u - N) s3 = textS t s) := show _ = _ by
   have e9 := HE.out;rw [padS, HS3.out, HNz.out, hu9] at e9;exact e9
  rw [HEz.out] at HZ;clear HD4 HEz hu9 H4;refine regionJ (fun w' => w'.cell? ⟨kb, 13, none⟩ = some (.int .i64 (N : Int))) 11 (by kernel_rfl) (by kernel_rfl) HC0.out (fun hS hA => ?_);refine takeL 0 34 (Value.pointer (some ⟨kb, 0, none⟩)) hA hS ?_;refine takeL 1 35 (Value.pointer (some ⟨kb, 0, none⟩)) hA hS ?_;refine takeL 2 36 (Value.pointer (some ⟨kb, 0, none⟩)) hA hS ?_;refine takeL 3 37 (Value.pointer (some ⟨kb, 13, none⟩)) hA hS ?_;refine takeL 4 38 (Value.int .i64 (N : Int)) hA hS ?_;refine takeL 6 40 (Value.pointer (some ⟨kb, 0, none⟩)) hA hS ?_;refine takeL 7 41 (Value.pointer (some ⟨kb, 0, none⟩)) hA hS ?_;refine takeL 8 42 (Value.pointer (some ⟨kb, 13, none⟩)) hA hS ?_;refine takeL 9 43 (Value.int .i64 (N : Int)) hA hS ?_;refine callJ (i := 5) (d := 39) (by kernel_rfl) rfl rfl (by rfl) 98 _ _ rfl HEn1.out _ (by simp [Act.eval]) (HU.out _) (fun v w' hR _ _ => ?_) (fun v x1 hR => ?_)
  ·obtain ⟨_, rfl⟩ := hR;exact hS
  obtain ⟨rfl, rfl⟩ := hR;simp only [Act.put, List.setIfInBounds_toArray, List.set_cons_zero, List.set_cons_succ];refine takeL 10 44 (Value.int .i64 ((u - N : Nat) : Int)) hA hS ?_;refine callJ (i := 11) (d := 45) (by kernel_rfl) rfl rfl (by rfl) 56 _ _ rfl HEn2.out _ (by simp [Act.eval]) HZ.out (fun v w' hR h _ => absurd rfl h) (fun v x2 hR => ?_);obtain ⟨rfl, h9⟩ := hR;have H9 := Lib.hid h9;clear h9 HZ hS;simp only [Act.put, List.setIfInBounds_toArray, List.set_cons_zero, List.set_cons_succ];refine doneJ (by kernel_rfl) ?_ _;go_wp2_with fail
  go_end0
  exact ⟨rfl, H9.out⟩
end
end Go.Proofs.YtmfkggngjeolcaaGreatDoor
namespace Go.Proofs.YtmfkggngjeolcaaGreatDoor
open Go.RowKit Bn
def gsum : List Gd → Nat
 | [] => 0
 | g :: gs => 31 + g.txt.size + gsum gs
theorem gdS_le (g : Gd) (s : S) : (gdS g s).1.length ≤ s.1.length + 31 + g.txt.size := by
 rw [gdS];have := text_len g.txt (zerosS 3 (byteS (g.fill : Int) (longS g.sz (longS g.ad s))));rw [zeros_len, byte_len, long_len, long_len, bts_len] at this;omega
theorem gds_le : ∀ (xs : List Gd) (s : S), (eachS gdS xs s).1.length ≤ s.1.length + gsum xs
 | [], s => Nat.le_refl _
 | x :: xs, s => by
  rw [eachS, gsum];have := gds_le xs (gdS x s);have := gdS_le x s;omega
theorem gsum_take : ∀ (xs : List Gd) (i : Nat), gsum (xs.take i) ≤ gsum xs
 | [], i => by simp
 | x :: xs, 0 => by simp [gsum]
 | x :: xs, i + 1 => by
  rw [List.take_succ_cons, gsum, gsum];have := gsum_take xs i;omega
theorem gds_take (xs : List Gd) (s : S) (i : Nat) : (eachS gdS (xs.take i) s).1.length ≤ s.1.length + gsum xs := by
 have := gds_le (xs.take i) s;have := gsum_take xs i;omega
section
variable {B kb : Nat} {im : List Value} {o : Option Nat} {en : List Value} {w0 : World} {s0 : S} {w : World}
variable {s : S}
theorem regionsX (h : Sx B kb im o en w0 s w) {v : Value} {xs : List Gd} (hi : im[5]? = some v) (hr : ∀ W, Fx B w0 W → RowG 4 gdE W v xs) (hok : ∀ x ∈ xs, gdOk x) (hl : s.1.length + 8 + gsum xs + 64 ≤ 270000000000) : Calls Tryz.prog 51 #[.pointer (some ⟨kb, 0, none⟩)] w fun e w' => e = .returned (.tuple #[]) ∧ Sx B kb im o en w0 (eachS gdS xs (manyS xs.length s)) w' := by
 have HR : Hid (∀ W, Fx B w0 W → RowG 4 gdE W v xs) := hr;have HL : Hid ((manyS xs.length s).1.length + gsum xs + 64 ≤ 270000000000) := show _ ≤ _ by rw [many_len]; exact hl
 have HOk : Hid (∀ x ∈ xs, gdOk x) := hok;obtain ⟨ao, cap, rfl, h1, h2, _⟩ := hr w h.fr;have h2' := h2;unfold maxLen at h2;have HC := Lib.hid (manyX h (n := xs.length) (by unfold maxLen at h2'; omega) (by omega));have HI : Hid (∀ W s', Sx B kb im o en w0 s' W → W.cell? ⟨kb, 5, none⟩ = some (.slice ao xs.length cap)) := fun W s' hW => (St.cell hW 5).trans ((lyC_im hW.him (by decide)).trans hi);have c0 := HI.out _ _ h;obtain ⟨n, hn⟩ : ∃ n, xs.length = n := ⟨_, rfl⟩
 have HN := Lib.hid hn;rw [hn] at h1 HR HC HI c0 HL ⊢;clear hn h hl hok hr h2' hi;obtain ⟨s0, hs0⟩ : ∃ s0, manyS n s = s0 := ⟨_, rfl⟩
 rw [hs0] at HC HL ⊢;clear hs0;go_enter Tryz.func51, Tryz.ntmps51
 go_wp2_with fail
 refine HC.out.mono ?_;rintro e w1 ⟨rfl, hm1⟩;have c1 := HI.out _ _ hm1;have H0 : Hid (Sx B kb im o en w0 (eachS gdS (xs.take 0) s0) w1) := Lib.hid hm1;clear hm1 HC HI c0;go_wp2_with fail
 go_loopw [18] (fun iv wr => ∃ i : Nat, i ≤ n ∧ iv = .int .i64 (i : Int) ∧ Hid (Sx B kb im o en w0 (eachS gdS (xs.take i) s0) wr)) (fun iv _ => n - (intOf iv).toNat)
 case atStart => exact ⟨0, Nat.zero_le _, rfl, H0⟩
 case round =>
  clear H0;obtain ⟨i, hi, rfl, HI⟩ := hrel
  by_cases hin : i < n
  ·have ji : (i : Int) < (n : Int) := by omega
   have hix : i < xs.length := by rw [HN.out]; exact hin
   have hw1 : IntKind.i64.wrap ((i : Int) + 1) = ((i + 1 : Nat) : Int) := by rw [IntKind.wrap_i64]; omega
   obtain ⟨_, _, e', _, _, hc⟩ := HR.out wr HI.out.fr;simp only [Value.slice.injEq] at e';obtain ⟨rfl, e9, rfl⟩ := e';clear e9;obtain ⟨b, of, rfl, _, hc⟩ := hc i hix;have c0 := hc 0 (by decide);have c1 := hc 1 (by decide);have c2 := hc 2 (by decide);have c3 := hc 3 (by decide);simp only [gdE, List.getElem?_cons_zero, List.getElem?_cons_succ, Nat.add_zero] at c0 c1 c2 c3;have hok1 := HOk.out xs[i] (List.getElem_mem _);have HE : Hid (∀ W, Sx B kb im o en w0 (gdS xs[i] (eachS gdS (xs.take i) s0)) W → Sx B kb im o en w0 (eachS gdS (xs.take (i + 1)) s0) W) := fun W hW => by rw [eachS_take _ _ _ _ hix]; exact hW
   have HLi : Hid ((eachS gdS (xs.take i) s0).1.length + 64 ≤ 270000000000) := show _ ≤ _ by
    have := gds_take xs s0 i;have := HL.out;omega
   generalize eachS gdS (xs.take i) s0 = si at HI HE HLi;generalize xs[i] = x at *;obtain ⟨xa, xb, xc, xd⟩ := x;obtain ⟨hx0, hx1, hx2, hx3⟩ := hok1;clear hc;have HF0 : Hid (Fx B w0 (wr.alloc (.cells #[.int .u64 (xa : Int), .int .u64 (xb : Int), .int .u8 (xc : Int), .string xd] 70))) := HI.out.fr.trans (Fx.of_below ((Below.refl _ _).alloc (Nat.le_refl _) _));have HS0 : Hid (Sx B kb im o en (wr.alloc (.cells #[.int .u64 (xa : Int), .int .u64 (xb : Int), .int .u8 (xc : Int), .string xd] 70)) si (wr.alloc (.cells #[.int .u64 (xa : Int), .int .u64 (xb : Int), .int .u8 (xc : Int), .string xd] 70))) := (St.below HI.out ((Below.refl _ _).alloc (Nat.le_refl _) _)).here;have HBx : Hid (∀ W, Fx B (wr.alloc (.cells #[.int .u64 (xa : Int), .int .u64 (xb : Int), .int .u8 (xc : Int), .string xd] 70)) W → W.cell? ⟨wr.heap.size, 0, none⟩ = some (.int .u64 (xa : Int)) ∧ W.cell? ⟨wr.heap.size, 1, none⟩ = some (.int .u64 (xb : Int)) ∧ W.cell? ⟨wr.heap.size, 2, none⟩ = some (.int .u8 (xc : Int)) ∧ W.cell? ⟨wr.heap.size, 3, none⟩ = some (.string xd)) := fun W hW => by
    have hb := (hW.block' ⟨_, heap_alloc_new wr _⟩ (by simp) (by decide) (by decide) (by decide)).trans (heap_alloc_new wr _);refine ⟨?_, ?_, ?_, ?_⟩ <;> (rw [cell_of_row _ _ _ _ _ _ hb]; rfl)
   go_wp2_with fail
   refine (longX HS0.out (m := xa) hx0 (by (try simp only [byte_len, half_len, none_len, word_len, long_len, zeros_len, flag_len, field_len, many_len, ask_len, bytes_len]); have := HLi.out; omega)).mono ?_;rintro e w1 ⟨rfl, h1⟩;obtain ⟨d0, d1, d2, d3⟩ := HBx.out _ h1.fr;have HS1 := Lib.hid h1;clear h1 HS0;go_wp2_with fail
   clear d0 d1 d2 d3;refine (longX HS1.out (m := xb) hx1 (by (try simp only [byte_len, half_len, none_len, word_len, long_len, zeros_len, flag_len, field_len, many_len, ask_len, bytes_len]); have := HLi.out; omega)).mono ?_;rintro e w2 ⟨rfl, h2⟩;obtain ⟨d0, d1, d2, d3⟩ := HBx.out _ h2.fr;have HS2 := Lib.hid h2;clear h2 HS1;go_wp2_with fail
   clear d0 d1 d2 d3;refine (byteX HS2.out (k := (xc : Int)) ⟨by omega, by omega⟩ (by (try simp only [byte_len, half_len, none_len, word_len, long_len, zeros_len, flag_len, field_len, many_len, ask_len, bytes_len]); have := HLi.out; omega)).mono ?_;rintro e w3 ⟨rfl, h3⟩;obtain ⟨d0, d1, d2, d3⟩ := HBx.out _ h3.fr;have HS3 := Lib.hid h3;clear h3 HS2;go_wp2_with fail
   clear d0 d1 d2 d3;refine (zerosX HS3.out (c := 3) (by (try simp only [byte_len, half_len, none_len, word_len, long_len, zeros_len, flag_len, field_len, many_len, ask_len, bytes_len]); have := HLi.out; omega)).mono ?_;rintro e w4 ⟨rfl, h4⟩;obtain ⟨d0, d1, d2, d3⟩ := HBx.out _ h4.fr;have HS4 := Lib.hid h4;clear h4 HS3;go_wp2_with fail
   clear d0 d1 d2 d3;refine (textX HS4.out (t := xd) hx3 (by (try simp only [byte_len, half_len, none_len, word_len, long_len, zeros_len, flag_len, field_len, many_len, ask_len, bytes_len]); have := HLi.out; omega)).mono ?_;rintro e w5 ⟨rfl, h5⟩;have HS5 := Lib.hid h5;clear h5 HS4;go_wp2_with fail
   go_roundw
   case rel => exact ⟨i + 1, by omega, rfl, HE.out _ (HS5.out.since HF0.out)⟩
   case measure => simp [intOf]; omega
  ·obtain rfl : i = n := by omega
   have ji : ¬ (i : Int) < (i : Int) := by omega
   have HE : Hid (eachS gdS (xs.take i) s0 = eachS gdS xs s0) := show _ = _ by rw [List.take_of_length_le (by rw [HN.out]; exact Nat.le_refl _)]
   rw [HE.out] at HI;go_wp2_with fail
   go_end0
   exact ⟨rfl, HI.out⟩
theorem laneX (h : Sx B kb im o en w0 s w) {v : Value} {xs : List (Int × Int)} (hr : ∀ W, Fx B w0 W → RowG 2 stE W v xs) (hok : ∀ x ∈ xs, stOk x) (hl : s.1.length + 8 + 8 * xs.length ≤ 274877906944) : Calls Tryz.prog 96 #[.pointer (some ⟨kb, 0, none⟩), v] w fun e w' => e = .returned (.tuple #[]) ∧ Sx B kb im o en w0 (eachS stS xs (manyS xs.length s)) w' := by
 have HR : Hid (∀ W, Fx B w0 W → RowG 2 stE W v xs) := hr;have HL : Hid ((manyS xs.length s).1.length + 8 * xs.length ≤ 274877906944) := show _ ≤ _ by rw [many_len]; exact hl
 have HOk : Hid (∀ x ∈ xs, stOk x) := hok;obtain ⟨ao, cap, rfl, h1, h2, _⟩ := hr w h.fr;have h2' := h2;unfold maxLen at h2;have HC := Lib.hid (manyX h (n := xs.length) (by unfold maxLen at h2'; omega) (by omega));obtain ⟨n, hn⟩ : ∃ n, xs.length = n := ⟨_, rfl⟩
 have HN := Lib.hid hn;rw [hn] at h1 HR HC HL ⊢;clear hn h hl hok hr h2';obtain ⟨s0, hs0⟩ : ∃ s0, manyS n s = s0 := ⟨_, rfl⟩
 rw [hs0] at HC HL ⊢;clear hs0;go_enter Tryz.func96, Tryz.ntmps96
 go_wp2_with fail
 refine HC.out.mono ?_;rintro e w1 ⟨rfl, hm1⟩;have H0 : Hid (Sx B kb im o en w0 (eachS stS (xs.take 0) s0) w1) := Lib.hid hm1;clear hm1 HC;go_wp2_with fail
 go_loopw [12] (fun iv wr => ∃ i : Nat, i ≤ n ∧ iv = .int .i64 (i : Int) ∧ Hid (Sx B kb im o en w0 (eachS stS (xs.take i) s0) wr)) (fun iv _ => n - (intOf iv).toNat)
 case atStart => exact ⟨0, Nat.zero_le _, rfl, H0⟩
 case round =>
  clear H0;obtain ⟨i, hi, rfl, HI⟩ := hrel
  by_cases hin : i < n
  ·have ji : (i : Int) < (n : Int) := by omega
   have hix : i < xs.length := by rw [HN.out]; exact hin
   have hw1 : IntKind.i64.wrap ((i : Int) + 1) = ((i + 1 : Nat) : Int) := by rw [IntKind.wrap_i64]; omega
   obtain ⟨_, _, e', _, _, hc⟩ := HR.out wr HI.out.fr;simp only [Value.slice.injEq] at e';obtain ⟨rfl, e9, rfl⟩ := e';clear e9;obtain ⟨b, of, rfl, _, hc⟩ := hc i hix;have c0 := hc 0 (by decide);have c1 := hc 1 (by decide);simp only [stE, List.getElem?_cons_zero, List.getElem?_cons_succ, Nat.add_zero] at c0 c1;have hok1 := HOk.out xs[i] (List.getElem_mem _);have HE : Hid (∀ W, Sx B kb im o en w0 (stS xs[i] (eachS stS (xs.take i) s0)) W → Sx B kb im o en w0 (eachS stS (xs.take (i + 1)) s0) W) := fun W hW => by rw [eachS_take _ _ _ _ hix]; exact hW
   have HLi : Hid ((eachS stS (xs.take i) s0).1.length + 8 ≤ 274877906944) := show _ ≤ _ by
    rw [each_len stS_len, List.length_take];have := HL.out;omega
   generalize eachS stS (xs.take i) s0 = si at HI HE HLi;generalize xs[i] = x at *;obtain ⟨xa, xb⟩ := x;obtain ⟨hx0, hx1⟩ := hok1;clear hc;have HF0 : Hid (Fx B w0 (wr.alloc (.cells #[.int .i64 xa, .int .i64 xb] 74))) := HI.out.fr.trans (Fx.of_below ((Below.refl _ _).alloc (Nat.le_refl _) _));have HS0 : Hid (Sx B kb im o en (wr.alloc (.cells #[.int .i64 xa, .int .i64 xb] 74)) si (wr.alloc (.cells #[.int .i64 xa, .int .i64 xb] 74))) := (St.below HI.out ((Below.refl _ _).alloc (Nat.le_refl _) _)).here;have HBx : Hid (∀ W, Fx B (wr.alloc (.cells #[.int .i64 xa, .int .i64 xb] 74)) W → W.cell? ⟨wr.heap.size, 0, none⟩ = some (.int .i64 xa) ∧ W.cell? ⟨wr.heap.size, 1, none⟩ = some (.int .i64 xb)) := fun W hW => by
    have hb := (hW.block' ⟨_, heap_alloc_new wr _⟩ (by simp) (by decide) (by decide) (by decide)).trans (heap_alloc_new wr _);refine ⟨?_, ?_⟩ <;> (rw [cell_of_row _ _ _ _ _ _ hb]; rfl)
   go_wp2_with fail
   refine (noneX HS0.out (k := xa) hx0 (by (try simp only [byte_len, half_len, none_len, word_len, long_len, zeros_len, flag_len, field_len, many_len, ask_len, bytes_len]); have := HLi.out; omega)).mono ?_;rintro e w1 ⟨rfl, h1⟩;obtain ⟨d0, d1⟩ := HBx.out _ h1.fr;have HS1 := Lib.hid h1;clear h1 HS0;go_wp2_with fail
   clear d0 d1;refine (zerosX HS1.out (c := 2) (by (try simp only [byte_len, half_len, none_len, word_len, long_len, zeros_len, flag_len, field_len, many_len, ask_len, bytes_len]); have := HLi.out; omega)).mono ?_;rintro e w2 ⟨rfl, h2⟩;obtain ⟨d0, d1⟩ := HBx.out _ h2.fr;have HS2 := Lib.hid h2;clear h2 HS1;go_wp2_with fail
   clear d0 d1;refine (wordX HS2.out (k := xb) hx1 (by (try simp only [byte_len, half_len, none_len, word_len, long_len, zeros_len, flag_len, field_len, many_len, ask_len, bytes_len]); have := HLi.out; omega)).mono ?_;rintro e w3 ⟨rfl, h3⟩;have HS3 := Lib.hid h3;clear h3 HS2;go_wp2_with fail
   go_roundw
   case rel => exact ⟨i + 1, by omega, rfl, HE.out _ (HS3.out.since HF0.out)⟩
   case measure => simp [intOf]; omega
  ·obtain rfl : i = n := by omega
   have ji : ¬ (i : Int) < (i : Int) := by omega
   have HE : Hid (eachS stS (xs.take i) s0 = eachS stS xs s0) := show _ = _ by rw [List.take_of_length_le (by rw [HN.out]; exact Nat.le_refl _)]
   rw [HE.out] at HI;go_wp2_with fail
   go_end0
   exact ⟨rfl, HI.out⟩
end
end Go.Proofs.YtmfkggngjeolcaaGreatDoor
