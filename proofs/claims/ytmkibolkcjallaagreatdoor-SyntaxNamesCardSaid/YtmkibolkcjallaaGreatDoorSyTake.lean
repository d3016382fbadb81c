/- Syntax: takes. -/
import Derived.Test.YtmkibolkcjallaaGreatDoorSyStep
namespace Go.Proofs.YtmkibolkcjallaaGreatDoor
open Go.RowKit
theorem info_str : (Tryz.prog.info? 9).map (fun i => (i.zero, i.size, i.bytes)) = some (some (.string ⟨#[]⟩), 1, 16) := by kernel_rfl
/-- a row of strings that is owned from base on -/
def OwnS (w : World) (base : Nat) (v : Value) (ss : List ByteArray) : Prop := w.ownsRow base 9 1 v ss.length (ss.map Value.string)
theorem OwnS.lt {w : World} {base : Nat} {v : Value} {ss : List ByteArray} (h : OwnS w base v ss) : ∀ k, v.ownBlock = some k → base ≤ k ∧ k < w.heap.size := World.ownsRow.lt h
theorem OwnS.keeps {S : Nat → Prop} {w w' : World} {base : Nat} {v : Value} {ss : List ByteArray} (h : OwnS w base v ss) (hk : Keeps S w w') (hn : ∀ k, v.ownBlock = some k → ¬ S k) : OwnS w' base v ss := by
  refine ⟨h.1, ?_⟩
  rcases h.2 with hv | ⟨g, cap, cur, rfl, hb, hgg, rest⟩
  · exact .inl hv
  · refine .inr ⟨g, cap, cur, rfl, hb, ?_, rest⟩
    rw [hk.block g (Array.getElem?_eq_some_iff.1 hgg).1 (hn g rfl)]
    exact hgg
theorem OwnS.form {w : World} {base : Nat} {v : Value} {ss : List ByteArray} (h : OwnS w base v ss) : ∃ a c, v = .slice a ss.length c := by
  rcases h.2 with ⟨rfl, h0⟩ | ⟨g, cap, cur, rfl, _⟩
  · exact ⟨none, 0, by rw [h0]⟩
  · exact ⟨_, _, rfl⟩
/-- the row, emptied: its block is kept -/
theorem OwnS.empty {w : World} {base : Nat} {a : Option Addr} {n c : Nat} {ss : List ByteArray} (h : OwnS w base (.slice a n c) ss) : OwnS w base (.slice a 0 c) [] := by
  refine ⟨rfl, ?_⟩
  rcases h.2 with ⟨hv, h0⟩ | ⟨g, cap, cur, hv, hb, hgg, h1, h2, h3, h4⟩
  · simp only [Value.slice.injEq] at hv
    obtain ⟨rfl, _, rfl⟩ := hv
    exact .inl ⟨rfl, rfl⟩
  · simp only [Value.slice.injEq] at hv
    obtain ⟨rfl, _, rfl⟩ := hv
    exact .inr ⟨g, c, cur, rfl, hb, hgg, Nat.zero_le _, h2, h3, by simp⟩
theorem own_same (a : Option Addr) (n m c : Nat) : Value.ownBlock (.slice a n c) = Value.ownBlock (.slice a m c) := by cases a <;> rfl
theorem run_appendS {w : World} {base : Nat} {v : Value} {ss : List ByteArray} {t : ByteArray} {g cap : Nat} (ty : TypeId) (hown : OwnS w base v ss) (hg : w.cell? ⟨g, 0, none⟩ = some (.string t)) (hb : ss.length ≤ 1048576) (hbase : base ≤ w.heap.size) :
    ∃ v' w', (Builtin.append_ #[47, 47] ty #[v, .slice (some ⟨g, 0, none⟩) 1 cap]).run Tryz.prog w = .ok v' w' ∧ OwnS w' base v' (ss ++ [t]) ∧ w.grownBy w' v.ownBlock ∧ (v'.ownBlock = v.ownBlock ∨ v'.ownBlock = some w.heap.size) := by
  obtain ⟨i, hi, hz0, hz1, hz2⟩ := info_parts info_str
  obtain ⟨v', w', r1, r2, r3, _, r5⟩ := run_append_own_at (P := Tryz.prog) w base 47 ty 9 i (.string ⟨#[]⟩) 1 16 Tryz.underlying47 hi hz0 hz1 hz2 rfl (by omega) v ss.length (ss.map Value.string) hown ⟨g, 0, none⟩ 1 cap [.string t] rfl (fun j u hj => by
    rw [Addr.add_lit, Nat.zero_add]
    match j, hj with
    | 0, hj => rw [hg]; exact hj) (fun u hu => by simp at hu; subst hu; rfl) (by unfold maxLen; omega) (by omega) hbase
  refine ⟨v', w', r1, ?_, r3, r5⟩
  unfold OwnS
  rw [List.length_append, List.map_append]
  exact r2
theorem step_appendS {w : World} {ops : Array Oper} {o : Oper} {a : Act} {K : Act → World → Prop} {Q : Exit → Act → World → Prop} {E : Prop} (hw : Region.wanted o (yielded ops a.tmps) = true) (s x : Operand)
    (ho : o.op = .call { callee := .builtin .append, args := #[s, x], argTypes := #[47, 47] })
    {base : Nat} {v : Value} {ss : List ByteArray} (t : ByteArray) {g cap : Nat} (hs : a.eval s = v) (hown : OwnS w base v ss) (hx : a.eval x = .slice (some ⟨g, 0, none⟩) 1 cap) (hg : w.cell? ⟨g, 0, none⟩ = some (.string t)) (hb : ss.length ≤ 1048576) (hbase : base ≤ w.heap.size)
    (h : ∀ v' w', OwnS w' base v' (ss ++ [t]) → w.grownBy w' v.ownBlock → (v'.ownBlock = v.ownBlock ∨ v'.ownBlock = some w.heap.size) → K (a.put o.dst v') w') : if Region.wanted o (yielded ops a.tmps) = true then Oper.wp Tryz.prog o a w K Q else E := by
  rw [if_pos hw]
  obtain ⟨v', w', hr, h2, h3, h4⟩ := run_appendS o.type hown hg hb hbase (cap := cap)
  unfold Oper.wp execOp
  simp only [ho, resolve, invoke, builtin, Sem.run_bind, Sem.run_pure, Result.andThen_ok, List.map_toArray, List.map_cons, List.map_nil, hs, hx, hr]
  exact h v' w' h2 h3 h4
theorem wpList_appendS {w : World} {ops : Array Oper} {rest : List Oper} {o : Oper} {a : Act} {Q : Exit → Act → World → Prop} (s x : Operand) (hw : Region.wanted o (yielded ops a.tmps) = true)
    (ho : o.op = .call { callee := .builtin .append, args := #[s, x], argTypes := #[47, 47] })
    {base : Nat} {v : Value} {ss : List ByteArray} (t : ByteArray) {g cap : Nat} (hs : a.eval s = v) (hown : OwnS w base v ss) (hx : a.eval x = .slice (some ⟨g, 0, none⟩) 1 cap) (hg : w.cell? ⟨g, 0, none⟩ = some (.string t)) (hb : ss.length ≤ 1048576) (hbase : base ≤ w.heap.size)
    (h : ∀ v' w', OwnS w' base v' (ss ++ [t]) → w.grownBy w' v.ownBlock → (v'.ownBlock = v.ownBlock ∨ v'.ownBlock = some w.heap.size) → wpList Tryz.prog ops Q rest (a.put o.dst v') w') : wpList Tryz.prog ops Q (o :: rest) a w := by
  refine wpList_step fun K hK => ?_
  rw [if_pos hw]
  obtain ⟨v', w', hr, h2, h3, h4⟩ := run_appendS o.type hown hg hb hbase (cap := cap)
  unfold Oper.wp execOp
  simp only [ho, resolve, invoke, builtin, Sem.run_bind, Sem.run_pure, Result.andThen_ok, List.map_toArray, List.map_cons, List.map_nil, hs, hx, hr]
  exact hK _ _ (h v' w' h2 h3 h4)
/-- where the words lie afterwards: not in the parser's block, where they lay or in a new one -/
def Lie (w : World) (pb : Nat) (v v' : Value) : Prop := v'.ownBlock ≠ some pb ∧ (v'.ownBlock = v.ownBlock ∨ ∃ k, v'.ownBlock = some k ∧ w.heap.size ≤ k)
/-- what the append of a word leaves -/
structure TookW (w : World) (pb base : Nat) (par : Par) (ws : List ByteArray) (t : ByteArray) (wv : Value) (w' : World) : Prop where
  blk : ParB w' pb { par with words := wv }
  own : OwnS w' base wv (ws ++ [t])
  ne : wv.ownBlock ≠ some pb
  lie : Lie w pb par.words wv
  keeps : Keeps (fun k => k = pb ∨ par.words.ownBlock = some k) w w'
theorem TookW.mk' {w w3 : World} {pb base : Nat} {par : Par} {ws : List ByteArray} {t : ByteArray} {wv : Value} {X : Obj} (hp : ParB w pb par) (hne : par.words.ownBlock ≠ some pb) (h : OwnS w3 base wv (ws ++ [t])) (g : (w.alloc X).grownBy w3 par.words.ownBlock) (l : wv.ownBlock = par.words.ownBlock ∨ wv.ownBlock = some (w.alloc X).heap.size) :
    ParB w3 pb par ∧ TookW w pb base par ws t wv (w3.setCell ⟨pb, 9, none⟩ wv) := by
  have hk : Keeps (fun k => par.words.ownBlock = some k) w w3 := (Keeps.alloc (S := fun k => par.words.ownBlock = some k) w X).trans (Keeps.of_grown g) (fun _ _ e => e)
  have hp3 : ParB w3 pb par := hp.keeps hk hne
  have hne3 : wv.ownBlock ≠ some pb := by
    rcases l with l | l
    · rw [l]; exact hne
    · rw [l]
      intro e
      have := hp.lt
      simp at e
      omega
  refine ⟨hp3, Par.set9 hp3 wv, h.keeps (Keeps.setCell _ _ 9 _) (fun k hk e => hne3 (by rw [hk, e])), hne3, ⟨hne3, l.imp id (fun l => ⟨_, l, by simp⟩)⟩, ?_⟩
  exact Keeps.trans (S := fun k => k = pb ∨ par.words.ownBlock = some k) (S' := fun k => k = pb) ⟨hk.os, hk.tape, hk.output, hk.size, fun k h1 h2 => hk.block k h1 (fun e => h2 (.inr e))⟩ (Keeps.setCell _ _ 9 _) (fun _ _ e => .inl e)
set_option maxRecDepth 100000 in
set_option maxHeartbeats 2000000 in
/-- nothing is ahead -/
theorem takes_none {w : World} {pb base lc : Nat} {par : Par} {la : Option Addr} {ws : List ByteArray} (t : ByteArray) (hp : ParB w pb par) (hl : par.list = .slice la 0 lc) (hw : OwnS w base par.words ws) (hne : par.words.ownBlock ≠ some pb) (hb : ws.length ≤ 1000) (hbase : base ≤ w.heap.size) :
    Calls Tryz.prog 27 #[.pointer (some ⟨pb, 0, none⟩), .string t] w fun e w' => e = .returned (.bool false) ∧ ∃ wv, ParB w' pb { par with words := wv } ∧ OwnS w' base wv (ws ++ [t]) ∧ Lie w pb par.words wv ∧ Keeps (fun k => k = pb ∨ par.words.ownBlock = some k) w w' := by
  obtain ⟨wa, wc, hwv⟩ := hw.form
  have hh : w.heap[pb]? = _ := hp
  have d9 : w.cell? ⟨pb, 9, none⟩ = some (.slice wa ws.length wc) := by rw [← hwv]; exact hp.cell 9 rfl
  have f9 := hp.thawed 9
  have HW : Hid (OwnS w base (.slice wa ws.length wc) ws) := by rw [← hwv]; exact hw
  have HP : Hid (ParB w pb par) := hp
  have HWv : Hid (par.words = .slice wa ws.length wc) := hwv
  have HNe : Hid (par.words.ownBlock ≠ some pb) := hne
  have HLi : Hid (par.list = .slice la 0 lc) := hl
  have HBb : Hid (ws.length ≤ 1000 ∧ base ≤ w.heap.size) := ⟨hb, hbase⟩
  clear hp hl hne hwv hw hb hbase
  go_enter Tryz.func27, Tryz.ntmps27
  go_wp2_with (at_builtin; refine wpList_appendS (v := .slice wa ws.length wc) (.tmp 9) (.tmp 11) (by rfl) rfl t rfl (HW.out.keeps (Keeps.alloc (S := fun _ => False) _ _) (fun _ _ e => e)) rfl (by simp) (by have := HBb.out.1; omega) (by have := HBb.out.2; simp; omega) ?_; intro v3 w3 h3 g3 l3; obtain ⟨va, vc, hv3⟩ := h3.form; rw [List.length_append, List.length_singleton] at hv3; subst hv3; have HT3 : Hid (ParB w3 pb par ∧ TookW w pb base par ws t (.slice va (ws.length + 1) vc) (w3.setCell ⟨pb, 9, none⟩ (.slice va (ws.length + 1) vc))) := TookW.mk' HP.out HNe.out h3 (by rw [HWv.out]; exact g3) (by rw [HWv.out]; exact l3); have hh3 : w3.heap[pb]? = some (.cells par.cells 52 (0, 0)) := HT3.out.1; have e9 := HT3.out.1.cell 9 (v := par.words) rfl; have g9 := HT3.out.1.thawed 9; have e1 : w3.cell? ⟨pb, 1, none⟩ = some (.slice la 0 lc) := (by rw [← HLi.out]; exact HT3.out.1.cell 1 rfl); clear h3 g3 l3)
  go_ret
  exact ⟨rfl, _, HT3.out.2.blk, HT3.out.2.own, HT3.out.2.lie, HT3.out.2.keeps⟩
set_option maxRecDepth 100000 in
set_option maxHeartbeats 2000000 in
/-- another word is ahead -/
theorem takes_other {w : World} {pb base b o cap n g off m lc p q : Nat} {par : Par} {ws : List ByteArray} {zs : List Nat} (t : ByteArray) (hp : ParB w pb par) (hx : NextAt w par b o cap n g off m lc p q) (hsl : Sl w (.slice (some ⟨b, o + p, none⟩) (q - p) (cap - p)) zs) (hgb : g ≠ pb ∧ b ≠ pb ∧ par.words.ownBlock ≠ some g ∧ par.words.ownBlock ≠ some b) (hzt : mkS zs ≠ t) (hw : OwnS w base par.words ws) (hne : par.words.ownBlock ≠ some pb) (hb : ws.length ≤ 1000) (hbase : base ≤ w.heap.size) :
    Calls Tryz.prog 27 #[.pointer (some ⟨pb, 0, none⟩), .string t] w fun e w' => e = .returned (.bool false) ∧ ∃ wv, ParB w' pb { par with words := wv } ∧ OwnS w' base wv (ws ++ [t]) ∧ Lie w pb par.words wv ∧ Keeps (fun k => k = pb ∨ par.words.ownBlock = some k) w w' := by
  obtain ⟨wa, wc, hwv⟩ := hw.form
  have hh : w.heap[pb]? = _ := hp
  have d9 : w.cell? ⟨pb, 9, none⟩ = some (.slice wa ws.length wc) := by rw [← hwv]; exact hp.cell 9 rfl
  have f9 := hp.thawed 9
  have HW : Hid (OwnS w base (.slice wa ws.length wc) ws) := by rw [← hwv]; exact hw
  have HP : Hid (ParB w pb par) := hp
  have HWv : Hid (par.words = .slice wa ws.length wc) := hwv
  have HNe : Hid (par.words.ownBlock ≠ some pb) := hne
  have HX : Hid (NextAt w par b o cap n g off m lc p q ∧ Sl w (.slice (some ⟨b, o + p, none⟩) (q - p) (cap - p)) zs) := ⟨hx, hsl⟩
  have HLi : Hid (par.list = .slice (some ⟨g, off, none⟩) m lc) := hx.list
  have HGb : Hid (g ≠ pb ∧ b ≠ pb ∧ par.words.ownBlock ≠ some g ∧ par.words.ownBlock ≠ some b) := hgb
  have HZt : Hid (mkS zs ≠ t) := hzt
  have im : ((m : Int) == 0) = false := beq_eq_false_iff_ne.2 (by have := hx.some_; omega)
  have HBb : Hid (ws.length ≤ 1000 ∧ base ≤ w.heap.size) := ⟨hb, hbase⟩
  clear hp hx hsl hgb hzt hne hwv hw hb hbase
  go_enter Tryz.func27, Tryz.ntmps27
  go_wp2_with (at_builtin; refine wpList_appendS (v := .slice wa ws.length wc) (.tmp 9) (.tmp 11) (by rfl) rfl t rfl (HW.out.keeps (Keeps.alloc (S := fun _ => False) _ _) (fun _ _ e => e)) rfl (by simp) (by have := HBb.out.1; omega) (by have := HBb.out.2; simp; omega) ?_; intro v3 w3 h3 g3 l3; obtain ⟨va, vc, hv3⟩ := h3.form; rw [List.length_append, List.length_singleton] at hv3; subst hv3; have HT3 : Hid (ParB w3 pb par ∧ TookW w pb base par ws t (.slice va (ws.length + 1) vc) (w3.setCell ⟨pb, 9, none⟩ (.slice va (ws.length + 1) vc))) := TookW.mk' HP.out HNe.out h3 (by rw [HWv.out]; exact g3) (by rw [HWv.out]; exact l3); have hh3 : w3.heap[pb]? = some (.cells par.cells 52 (0, 0)) := HT3.out.1; have e9 := HT3.out.1.cell 9 (v := par.words) rfl; have g9 := HT3.out.1.thawed 9; have e1 : w3.cell? ⟨pb, 1, none⟩ = some (.slice (some ⟨g, off, none⟩) m lc) := (by rw [← HLi.out]; exact HT3.out.1.cell 1 rfl); clear h3 g3 l3)
  obtain ⟨W4, hW4⟩ : ∃ W4, w3.setCell ⟨pb, 9, none⟩ (.slice va (ws.length + 1) vc) = W4 := ⟨_, rfl⟩
  rw [hW4] at HT3 ⊢
  have HT : Hid (TookW w pb base par ws t (.slice va (ws.length + 1) vc) W4) := HT3.out.2
  clear hW4 HT3 hh3 e9 g9 e1 hh d9 f9
  have hnk : ∀ c, c ≠ pb → par.words.ownBlock ≠ some c → ¬ (c = pb ∨ par.words.ownBlock = some c) := fun c h1 h2 h => h.elim h1 h2
  have HKd : Hid (∀ k, Keeps (fun k => k = pb ∨ par.words.ownBlock = some k) w (W4.drewN k)) := fun k => HT.out.keeps.trans (Keeps.of_below (S := fun _ => False) (bdn (Below.refl _ _) k)) (fun _ _ e => e.elim)
  have HX4 : Hid (∀ k, NextAt (W4.drewN k) { par with words := .slice va (ws.length + 1) vc } b o cap n g off m lc p q ∧ Sl (W4.drewN k) (.slice (some ⟨b, o + p, none⟩) (q - p) (cap - p)) zs) := fun k => by
    have hb := HGb.out
    obtain ⟨hx, hs⟩ := HX.out
    refine ⟨⟨hx.src, hx.list, hx.some_, hx.pq, hx.qn, hx.nc, ?_, ?_⟩, ?_⟩
    · exact cell_keeps (S := fun k => k = pb ∨ par.words.ownBlock = some k) hx.at_ (HKd.out k) (hnk g hb.1 hb.2.2.1)
    · exact cell_keeps (S := fun k => k = pb ∨ par.words.ownBlock = some k) hx.end_ (HKd.out k) (hnk g hb.1 hb.2.2.1)
    · exact (hs.keeps HT.out.keeps (fun c hc => by cases hc; exact hnk b hb.2.1 hb.2.2.2)).below (bdn (Below.refl _ _) k)
  clear hnk
  refine (spelling_any HT.out.blk (HX4.out 0).1).mono ?_
  rintro e w5 ⟨rfl, k5, rfl⟩
  have hcv := conv_str (HX4.out k5).2
  have hcz : ((mkS zs).toList == t.toList) = false := str_ne HZt.out
  go_wp2_with fail
  all_goals try (rename_i hcc; rw [hcz] at hcc; exact absurd hcc (by decide))
  go_ret
  refine ⟨rfl, _, HT.out.blk.below (bdn (Below.refl _ _) k5), HT.out.own.keeps (Keeps.of_below (S := fun _ => False) (bdn (Below.refl _ _) k5)) (fun _ _ e => e), HT.out.lie, HT.out.keeps.trans (Keeps.of_below (S := fun _ => False) (bdn (Below.refl _ _) k5)) (fun _ _ e => e.elim)⟩
set_option maxRecDepth 100000 in
set_option maxHeartbeats 2000000 in
/-- the word is ahead -/
theorem takes_this {w : World} {pb base b o cap n g off m lc p q : Nat} {par : Par} {ws : List ByteArray} {zs : List Nat} (t : ByteArray) (hp : ParB w pb par) (hx : NextAt w par b o cap n g off m lc p q) (hsl : Sl w (.slice (some ⟨b, o + p, none⟩) (q - p) (cap - p)) zs) (hgb : g ≠ pb ∧ b ≠ pb ∧ par.words.ownBlock ≠ some g ∧ par.words.ownBlock ≠ some b) (hzt : mkS zs = t) {tk tn : Int} {ts : ByteArray} (hmc : m ≤ lc) (h0 : w.cell? ⟨g, off, none⟩ = some (.int .i64 tk)) (h1 : w.cell? ⟨g, off + 1, none⟩ = some (.int .u64 tn)) (h2 : w.cell? ⟨g, off + 2, none⟩ = some (.string ts)) (ho : 0 ≤ par.open_ ∧ par.open_ ≤ 1000) (ho2 : openN tk par.open_ ≤ 32) (hw : OwnS w base par.words ws) (hne : par.words.ownBlock ≠ some pb) (hb : ws.length ≤ 1000) (hbase : base ≤ w.heap.size) :
    Calls Tryz.prog 27 #[.pointer (some ⟨pb, 0, none⟩), .string t] w fun e w' => e = .returned (.bool true) ∧ ∃ wv, ParB w' pb { par with list := tailV g off m lc, kind := tk, n := tn, s := ts, at_ := (p : Int), till := (q : Int), words := wv, naming := false, open_ := openN tk par.open_ } ∧ OwnS w' base wv [] ∧ Lie w pb par.words wv ∧ Keeps (fun k => k = pb ∨ par.words.ownBlock = some k) w w' := by
  obtain ⟨wa, wc, hwv⟩ := hw.form
  have hh : w.heap[pb]? = _ := hp
  have d9 : w.cell? ⟨pb, 9, none⟩ = some (.slice wa ws.length wc) := by rw [← hwv]; exact hp.cell 9 rfl
  have f9 := hp.thawed 9
  have HW : Hid (OwnS w base (.slice wa ws.length wc) ws) := by rw [← hwv]; exact hw
  have HP : Hid (ParB w pb par) := hp
  have HWv : Hid (par.words = .slice wa ws.length wc) := hwv
  have HNe : Hid (par.words.ownBlock ≠ some pb) := hne
  have HX : Hid (NextAt w par b o cap n g off m lc p q ∧ Sl w (.slice (some ⟨b, o + p, none⟩) (q - p) (cap - p)) zs) := ⟨hx, hsl⟩
  have HLi : Hid (par.list = .slice (some ⟨g, off, none⟩) m lc) := hx.list
  have HGb : Hid (g ≠ pb ∧ b ≠ pb ∧ par.words.ownBlock ≠ some g ∧ par.words.ownBlock ≠ some b) := hgb
  have HZt : Hid (mkS zs = t) := hzt
  have HTk : Hid (m ≤ lc ∧ w.cell? ⟨g, off, none⟩ = some (.int .i64 tk) ∧ w.cell? ⟨g, off + 1, none⟩ = some (.int .u64 tn) ∧ w.cell? ⟨g, off + 2, none⟩ = some (.string ts) ∧ (0 ≤ par.open_ ∧ par.open_ ≤ 1000) ∧ openN tk par.open_ ≤ 32) := ⟨hmc, h0, h1, h2, ho, ho2⟩
  have im : ((m : Int) == 0) = false := beq_eq_false_iff_ne.2 (by have := hx.some_; omega)
  have HBb : Hid (ws.length ≤ 1000 ∧ base ≤ w.heap.size) := ⟨hb, hbase⟩
  clear hp hx hsl hgb hzt hne hwv hw hb hbase hmc h0 h1 h2 ho ho2
  go_enter Tryz.func27, Tryz.ntmps27
  go_wp2_with (at_builtin; refine wpList_appendS (v := .slice wa ws.length wc) (.tmp 9) (.tmp 11) (by rfl) rfl t rfl (HW.out.keeps (Keeps.alloc (S := fun _ => False) _ _) (fun _ _ e => e)) rfl (by simp) (by have := HBb.out.1; omega) (by have := HBb.out.2; simp; omega) ?_; intro v3 w3 h3 g3 l3; obtain ⟨va, vc, hv3⟩ := h3.form; rw [List.length_append, List.length_singleton] at hv3; subst hv3; have HT3 : Hid (ParB w3 pb par ∧ TookW w pb base par ws t (.slice va (ws.length + 1) vc) (w3.setCell ⟨pb, 9, none⟩ (.slice va (ws.length + 1) vc))) := TookW.mk' HP.out HNe.out h3 (by rw [HWv.out]; exact g3) (by rw [HWv.out]; exact l3); have hh3 : w3.heap[pb]? = some (.cells par.cells 52 (0, 0)) := HT3.out.1; have e9 := HT3.out.1.cell 9 (v := par.words) rfl; have g9 := HT3.out.1.thawed 9; have e1 : w3.cell? ⟨pb, 1, none⟩ = some (.slice (some ⟨g, off, none⟩) m lc) := (by rw [← HLi.out]; exact HT3.out.1.cell 1 rfl); clear h3 g3 l3)
  obtain ⟨W4, hW4⟩ : ∃ W4, w3.setCell ⟨pb, 9, none⟩ (.slice va (ws.length + 1) vc) = W4 := ⟨_, rfl⟩
  rw [hW4] at HT3 ⊢
  have HT : Hid (TookW w pb base par ws t (.slice va (ws.length + 1) vc) W4) := HT3.out.2
  clear hW4 HT3 hh3 e9 g9 e1 hh d9 f9
  have hnk : ∀ c, c ≠ pb → par.words.ownBlock ≠ some c → ¬ (c = pb ∨ par.words.ownBlock = some c) := fun c h1 h2 h => h.elim h1 h2
  have HKd : Hid (∀ k, Keeps (fun k => k = pb ∨ par.words.ownBlock = some k) w (W4.drewN k)) := fun k => HT.out.keeps.trans (Keeps.of_below (S := fun _ => False) (bdn (Below.refl _ _) k)) (fun _ _ e => e.elim)
  have HX4 : Hid (∀ k, NextAt (W4.drewN k) { par with words := .slice va (ws.length + 1) vc } b o cap n g off m lc p q ∧ Sl (W4.drewN k) (.slice (some ⟨b, o + p, none⟩) (q - p) (cap - p)) zs) := fun k => by
    have hb := HGb.out
    obtain ⟨hx, hs⟩ := HX.out
    refine ⟨⟨hx.src, hx.list, hx.some_, hx.pq, hx.qn, hx.nc, ?_, ?_⟩, ?_⟩
    · exact cell_keeps (S := fun k => k = pb ∨ par.words.ownBlock = some k) hx.at_ (HKd.out k) (hnk g hb.1 hb.2.2.1)
    · exact cell_keeps (S := fun k => k = pb ∨ par.words.ownBlock = some k) hx.end_ (HKd.out k) (hnk g hb.1 hb.2.2.1)
    · exact (hs.keeps HT.out.keeps (fun c hc => by cases hc; exact hnk b hb.2.1 hb.2.2.2)).below (bdn (Below.refl _ _) k)
  clear hnk
  refine (spelling_any HT.out.blk (HX4.out 0).1).mono ?_
  rintro e w5 ⟨rfl, k5, rfl⟩
  have hcv := conv_str (HX4.out k5).2
  have hcz : ((mkS zs).toList == t.toList) = true := str_eq HZt.out
  have HSt : Hid (Calls Tryz.prog 43 #[.pointer (some ⟨pb, 0, none⟩)] (W4.drewN k5) fun e w' => e = .returned (.tuple #[]) ∧ ParB w' pb { par with list := tailV g off m lc, kind := tk, n := tn, s := ts, at_ := (p : Int), till := (q : Int), words := .slice va 0 vc, naming := false, open_ := openN tk par.open_ } ∧ Keeps (fun k => k = pb) (W4.drewN k5) w') := by
    have hb := HGb.out
    obtain ⟨c1, c2, c3, c4, c5, c6⟩ := HTk.out
    have hnk : ¬ (g = pb ∨ par.words.ownBlock = some g) := fun h => h.elim hb.1 hb.2.2.1
    have hn := (HX4.out k5).1
    exact step_any (par := { par with words := .slice va (ws.length + 1) vc }) (HT.out.blk.below (bdn (Below.refl _ _) k5)) hn.list hn.some_ c1 rfl
      (cell_keeps (S := fun k => k = pb ∨ par.words.ownBlock = some k) c2 (HKd.out k5) hnk) (cell_keeps (S := fun k => k = pb ∨ par.words.ownBlock = some k) c3 (HKd.out k5) hnk) (cell_keeps (S := fun k => k = pb ∨ par.words.ownBlock = some k) c4 (HKd.out k5) hnk) hn.at_ hn.end_ c5 c6
  go_wp2_with fail
  all_goals try (rename_i hcc; rw [hcz] at hcc; exact absurd hcc (by decide))
  refine HSt.out.mono ?_
  rintro e w6 ⟨rfl, hp6, hk6⟩
  have HP6 := Lib.hid hp6
  have HK6 := Lib.hid hk6
  clear hp6 hk6 HSt
  go_wp2_with fail
  go_ret
  refine ⟨rfl, _, HP6.out, ?_, ⟨fun h => HT.out.ne ((own_same va (ws.length + 1) 0 vc).trans h), HT.out.lie.2.imp (fun l => (own_same va 0 (ws.length + 1) vc).trans l) (fun ⟨k, l, hk⟩ => ⟨k, (own_same va 0 (ws.length + 1) vc).trans l, hk⟩)⟩, ?_⟩
  · exact (HT.out.own.empty.keeps (Keeps.of_below (S := fun _ => False) (bdn (Below.refl _ _) k5)) (fun _ _ e => e)).keeps HK6.out (fun c hc e => HT.out.ne (by rw [← e]; exact (own_same va (ws.length + 1) 0 vc).trans hc))
  · exact (HT.out.keeps.trans (Keeps.of_below (S := fun _ => False) (bdn (Below.refl _ _) k5)) (fun _ _ e => e.elim)).trans HK6.out (fun _ _ e => .inl e)
end Go.Proofs.YtmkibolkcjallaaGreatDoor
