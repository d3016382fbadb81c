import Derived.Test.YtdkhhofgfbnmkaaGreatPf35
import Derived.Test.YtdkhhofgfbnmkaaGreatPf41
import Derived.Test.YtdkhhofgfbnmkaaGreatPf15
import Derived.Test.YtdkhhofgfbnmkaaGreatPf32
import Derived.Handy
/- Rows of numbers that grow. Own work. -/
namespace Go.Proofs.YtdkhhofgfbnmkaaGreat
open Go.RowKit Go.Maps Go.Proofs.YtdkhhofgfbnmkaaGreat.Sp Wk
def encA (xs : List Nat) : List Value := xs.map fun (z : Nat) => Value.int .u64 (z : Int)
/-- a row of numbers that is owned -/
def OwnA (w : World) (base : Nat) (v : Value) (xs : List Nat) : Prop := w.ownsRow base 34 1 v xs.length (encA xs)
theorem OwnA.nil (w : World) (base : Nat) : OwnA w base (.slice none 0 0) [] := World.ownsRow_nil w base 34 1
theorem OwnA.lt {w : World} {base : Nat} {v : Value} {xs : List Nat} (h : OwnA w base v xs) : ∀ k, v.ownBlock = some k → base ≤ k ∧ k < w.heap.size := World.ownsRow.lt h
theorem OwnA.keeps {S : Nat → Prop} {w w' : World} {base : Nat} {v : Value} {xs : List Nat} (h : OwnA w base v xs) (hk : Keeps S w w') (hn : ∀ k, v.ownBlock = some k → ¬ S k) : OwnA w' base v xs := by
  refine ⟨h.1, ?_⟩
  rcases h.2 with hv | ⟨g, cap, cur, rfl, hb, hgg, rest⟩
  · exact .inl hv
  · exact .inr ⟨g, cap, cur, rfl, hb, (hk.block g (Array.getElem?_eq_some_iff.1 hgg).1 (hn g rfl)).trans hgg, rest⟩
theorem OwnA.below {w w' : World} {base : Nat} {v : Value} {xs : List Nat} (h : OwnA w base v xs) (hb : Below w.heap.size w w') : OwnA w' base v xs := h.keeps (Keeps.of_below (S := fun _ => False) hb) (fun _ _ e => e)
theorem OwnA.form {w : World} {base : Nat} {v : Value} {xs : List Nat} (h : OwnA w base v xs) : ∃ a c, v = .slice a xs.length c ∧ xs.length ≤ c ∧ c ≤ maxLen := by
  rcases h.2 with ⟨rfl, h0⟩ | ⟨g, cap, cur, rfl, hb, hg, h1, h2, _⟩
  · exact ⟨none, 0, by rw [h0], by omega, Nat.zero_le _⟩
  · exact ⟨_, cap, rfl, h1, h2⟩
theorem OwnA.cell {w : World} {base : Nat} {a : Option Addr} {n c : Nat} {xs : List Nat} (h : OwnA w base (.slice a n c) xs) (j : Nat) (hj : j < xs.length) : ∃ g, a = some ⟨g, 0, none⟩ ∧ w.cell? ⟨g, j, none⟩ = some (.int .u64 (xs[j] : Int)) := by
  rcases h.2 with ⟨e, h0⟩ | ⟨g, cap, cur, e, hb, hg, h1, h2, h3, h4⟩
  · omega
  · cases e
    refine ⟨g, rfl, ?_⟩
    rw [World.ownsRow.cellAt h j (by omega)]
    simp [encA, hj]
theorem info_u64 : (Tryz.prog.info? 34).map (fun i => (i.zero, i.size, i.bytes)) = some (some (.int .u64 0), 1, 8) := by kernel_rfl
theorem wpList_appendA {w : World} {base : Nat} {ops : Array Oper} {rest : List Oper} {o : Oper} {a : Act} {Q : Exit → Act → World → Prop} (hw : Region.wanted o (yielded ops a.tmps) = true) (s x : Operand)
    (ho : o.op = .call { callee := .builtin .append, args := #[s, x], argTypes := #[109, 109] }) {v : Value} {xs : List Nat} {z g cap : Nat} (hown : OwnA w base v xs) (hs : a.eval s = v) (hx : a.eval x = .slice (some ⟨g, 0, none⟩) 1 cap) (hg : w.cell? ⟨g, 0, none⟩ = some (.int .u64 (z : Int))) (hb : xs.length ≤ 1048576) (hbase : base ≤ w.heap.size)
    (h : ∀ v' w', OwnA w' base v' (xs ++ [z]) → w.grownBy w' v.ownBlock → (v'.ownBlock = v.ownBlock ∨ v'.ownBlock = some w.heap.size) → wpList Tryz.prog ops Q rest (a.put o.dst v') w') : wpList Tryz.prog ops Q (o :: rest) a w := by
  refine wpList_step fun K hK => ?_
  rw [if_pos hw]
  obtain ⟨i, hi, hz0, hz1, hz2⟩ := info_parts info_u64
  obtain ⟨v', w', r1, r2, r3, _, r5⟩ := run_append_own_at (P := Tryz.prog) w base 109 o.type 34 i (.int .u64 0) 1 8 Tryz.underlying109 hi hz0 hz1 hz2 rfl (by omega) v xs.length (encA xs) hown ⟨g, 0, none⟩ 1 cap [.int .u64 (z : Int)] rfl (fun j u hj => by
    rw [Addr.add_lit, Nat.zero_add]
    match j, hj with
    | 0, hj => rw [hg]; exact hj) (fun u hu => by obtain rfl := List.mem_singleton.1 hu; rfl) (by unfold maxLen; omega) (by omega) hbase
  have h2 : OwnA w' base v' (xs ++ [z]) := by
    unfold OwnA
    rw [List.length_append, List.length_singleton, encA, List.map_append]
    exact r2
  unfold Oper.wp execOp
  simp only [ho, resolve, invoke, builtin, Sem.run_bind, Sem.run_pure, Result.andThen_ok, List.map_toArray, List.map_cons, List.map_nil, hs, hx, r1]
  exact hK _ _ (h v' w' h2 r3 r5)
end Go.Proofs.YtdkhhofgfbnmkaaGreat
/- The document's own bytes: where each byte of an access lies. Own work. -/
namespace Go.Proofs.YtdkhhofgfbnmkaaGreat
open Go.RowKit Go.Maps Go.Proofs.YtdkhhofgfbnmkaaGreat.Sp Wk Lv
/-- append, under a name of its own -/
def appA (ty : TypeId) (args : Array Value) : Sem Next := builtin .append #[109, 109] ty #[] args
theorem appA_eq (ty : TypeId) (cs : Array Bool) (args : Array Value) : builtin .append #[109, 109] ty cs args = appA ty args := rfl
theorem appA_run {ty : TypeId} {args : Array Value} {w w' : World} {v : Value} (h : (Builtin.append_ #[109, 109] ty args).run Tryz.prog w = .ok v w') : (appA ty args).run Tryz.prog w = .ok (.value v) w' := by
  show Sem.run Tryz.prog (do pure (Next.value (← Builtin.append_ #[109, 109] ty args))) w = _
  simp only [Sem.run_bind, Sem.run_pure, h, Result.andThen_ok]
theorem run_appA {w : World} {base : Nat} {v : Value} {xs : List Nat} {z g cap : Nat} (ty : TypeId) (hown : OwnA w base v xs) (hg : w.cell? ⟨g, 0, none⟩ = some (.int .u64 (z : Int))) (hb : xs.length ≤ 1048576) (hbase : base ≤ w.heap.size) :
    ∃ a n c w', (Builtin.append_ #[109, 109] ty #[v, .slice (some ⟨g, 0, none⟩) 1 cap]).run Tryz.prog w = .ok (.slice a n c) w' ∧ OwnA w' base (.slice a n c) (xs ++ [z]) ∧ w.grownBy w' v.ownBlock := by
  obtain ⟨i, hi, hz0, hz1, hz2⟩ := info_parts info_u64
  obtain ⟨v', w', r1, r2, r3, _, _⟩ := run_append_own_at (P := Tryz.prog) w base 109 ty 34 i (.int .u64 0) 1 8 Tryz.underlying109 hi hz0 hz1 hz2 rfl (by omega) v xs.length (encA xs) hown ⟨g, 0, none⟩ 1 cap [.int .u64 (z : Int)] rfl (fun j u hj => by
    rw [Addr.add_lit, Nat.zero_add]
    match j, hj with
    | 0, hj => rw [hg]; exact hj) (fun u hu => by obtain rfl := List.mem_singleton.1 hu; rfl) (by unfold maxLen; omega) (by omega) hbase
  have h2 : OwnA w' base v' (xs ++ [z]) := by
    unfold OwnA
    rw [List.length_append, List.length_singleton, encA, List.map_append]
    exact r2
  obtain ⟨a, c, rfl, _, _⟩ := h2.form
  exact ⟨a, _, c, w', r1, h2, r3⟩
/-- the addresses of the first bytes -/
noncomputable def adL (LL : List Sp) (M : Nat → Nat) (t v : Nat) (acc : Int) (i : Nat) : List Nat := (List.range i).map fun j => (ad LL M t v acc j).1
theorem adL_succ (LL : List Sp) (M : Nat → Nat) (t v : Nat) (acc : Int) (i : Nat) : adL LL M t v acc (i + 1) = adL LL M t v acc i ++ [(ad LL M t v acc i).1] := by
  unfold adL
  rw [List.range_succ, List.map_append]
  rfl
theorem adL_len (LL : List Sp) (M : Nat → Nat) (t v : Nat) (acc : Int) (i : Nat) : (adL LL M t v acc i).length = i := by simp [adL]
/-- what holds while the bytes are gone through -/
structure BI (w0 w : World) (base v : Nat) (vr vd vp : Value) (ps : List (Int × Nat)) (M : Nat → Nat) (L S X : Nat) (vl : Value) (xs : List Nat) (W : World) : Prop where
  below : Below w0.heap.size w0 W
  keeps : Keeps (fun j => j = v) w W
  mac : RM W base v vr vd vp ps M L S X
  fault : BoxG W w.heap.size 0 0
  row : OwnA W (w.heap.size + 1) vl xs
section
variable {w0 w : World} {base v : Nat} {vr vd vp : Value} {ps : List (Int × Nat)} {M : Nat → Nat} {L S X : Nat} {vl : Value} {xs : List Nat} {W : World}
theorem BI.to_below (h : BI w0 w base v vr vd vp ps M L S X vl xs W) {W' : World} (hb : Below W.heap.size W W') : BI w0 w base v vr vd vp ps M L S X vl xs W' :=
  ⟨h.below.trans (hb.mono h.below.size), h.keeps.trans (Keeps.of_below (S := fun _ => False) hb) (fun _ _ e => e.elim), h.mac.below hb, h.fault.below hb, h.row.below hb⟩
theorem BI.fin (h : BI w0 w base v vr vd vp ps M L S X vl xs W) (a b : Int) : RM ((W.setCell ⟨w.heap.size, 0, none⟩ (.int .i64 a)).setCell ⟨w.heap.size, 1, none⟩ (.int .u64 b)) base v vr vd vp ps M L S X ∧ Keeps (fun j => j = v) w ((W.setCell ⟨w.heap.size, 0, none⟩ (.int .i64 a)).setCell ⟨w.heap.size, 1, none⟩ (.int .u64 b)) := by
  have hk := Keeps.two W w.heap.size (.int .i64 a) (.int .u64 b)
  refine ⟨h.mac.keeps hk (fun j hj e => ?_), h.keeps.trans hk (fun j hj e => by omega)⟩
  have e : j = w.heap.size := e
  obtain ⟨_, c, ty, fr, hc, ht⟩ := hj
  rw [e, show W.heap[w.heap.size]? = _ from h.fault] at hc
  cases hc
  rcases ht with ht | ht | ht <;> cases ht
theorem OwnA.tag {b : Nat} (h : OwnA W b vl xs) {k : Nat} (hk : vl.ownBlock = some k) : b ≤ k ∧ ∃ cur, W.heap[k]? = some (.cells cur 34 (0, 0)) := by
  rcases h.2 with ⟨rfl, _⟩ | ⟨g, cap, cur, rfl, hb, hg, _⟩
  · cases hk
  · cases hk
    exact ⟨hb, cur, hg⟩
theorem BI.to_keeps (h : BI w0 w base v vr vd vp ps M L S X vl xs W) (hv0 : w0.heap.size ≤ v) (hvs : v < w.heap.size) {W' : World} (hk : Keeps (fun j => j = v) W W') (hm : RM W' base v vr vd vp ps M L S X) : BI w0 w base v vr vd vp ps M L S X vl xs W' :=
  ⟨below_keeps h.below hk (fun j e => by rw [e]; exact hv0), h.keeps.trans hk (fun _ _ e => e), hm, h.fault.keeps hk (by omega), h.row.keeps hk (fun k e e' => by
    have := (h.row.tag e).1
    have e' : k = v := e'
    omega)⟩
theorem BI.append (h : BI w0 w base v vr vd vp ps M L S X vl xs W) (hw0 : w0.heap.size ≤ w.heap.size) (z : Nat) (hl : xs.length ≤ 1048576) :
    ∃ a n c w', (appA 109 #[vl, .slice (some ⟨W.heap.size, 0, none⟩) 1 1]).run Tryz.prog (W.alloc (Obj.cells #[.int .u64 (z : Int)] 34)) = .ok (.value (.slice a n c)) w' ∧ BI w0 w base v vr vd vp ps M L S X (.slice a n c) (xs ++ [z]) w' := by
  have hb : Below W.heap.size W (W.alloc (Obj.cells #[.int .u64 (z : Int)] 34)) := (Below.refl _ _).alloc (Nat.le_refl _) _
  have h2 := h.to_below hb
  obtain ⟨a, n, c, w', r1, r2, r3⟩ := run_appA (cap := 1) (z := z) (g := W.heap.size) 109 h2.row (by rw [cell_of_row _ _ _ _ _ _ (heap_alloc_new W _)]; rfl) hl (Nat.lt_of_lt_of_le h.fault.lt (by simp))
  have kg := Keeps.of_grown r3
  refine ⟨a, n, c, w', appA_run r1, below_keeps h2.below kg (fun k e => ?_), h2.keeps.trans kg (fun k hk e => ?_), h2.mac.keeps kg (fun j hj e => ?_), h2.fault.keeps kg (fun e => ?_), r2⟩
  · have := (h2.row.tag e).1
    omega
  · have := (h2.row.tag e).1
    omega
  · obtain ⟨_, cur, hc⟩ := h2.row.tag e
    obtain ⟨_, c', ty, fr, hc', ht⟩ := hj
    rw [hc] at hc'
    cases hc'
    rcases ht with ht | ht | ht <;> cases ht
  · have := (h2.row.tag e).1
    omega
end
attribute [local go_sem ↓ high] appA_eq
/-- what the document's bytes answers -/
def BsP (w : World) (base v : Nat) (vr vd vp : Value) (ps : List (Int × Nat)) (M : Nat → Nat) (LL : List Sp) (L S X t vi : Nat) (acc : Int) (k : Nat) (e : Ending) (w' : World) : Prop :=
  RM w' base v vr vd vp ps M L S X ∧ Keeps (fun j => j = v) w w' ∧ ((∃ why x, reachF LL M t vi acc k = some (why, x) ∧ e = .returned (.tuple #[.slice none 0 0, .agg #[.int .i64 why, .int .u64 (x : Int)]])) ∨ (reachF LL M t vi acc k = none ∧ (∀ j, j < k → (ad LL M t vi acc j).2 = 0 ∧ On LL ((ad LL M t vi acc j).1 : Int)) ∧ ∃ vl, e = .returned (.tuple #[vl, .agg #[.int .i64 0, .int .u64 0]]) ∧ OwnA w' (w.heap.size + 1) vl (adL LL M t vi acc k)))
set_option maxRecDepth 100000 in
set_option maxHeartbeats 4000000 in
theorem rbytes_of {w0 w : World} {base v : Nat} {vr vd vp : Value} {ps : List (Int × Nat)} {M : Nat → Nat} {L S X : Nat} {rs ds : List Sp} {t vi k : Nat} {acc : Int} (h : RM w base v vr vd vp ps M L S X) (hb0 : Below w0.heap.size w0 w) (hv0 : w0.heap.size ≤ v) (hvs : v < w.heap.size) (hr : U64.SV w0 vr rs) (hd : U64.SV w0 vd ds) (hs : Sane (rs ++ ds)) (hll : rs.length + ds.length ≤ 64) (hX : X ≤ 4611686018427387904) (ht : t ≤ 18446744073709551615) (hk : Wide k) :
    Calls Tryz.prog 47 #[.pointer (some ⟨v, 0, none⟩), .int .u64 (t : Int), .int .u64 (vi : Int), .int .i64 (k : Int), .int .i64 acc] w (BsP w base v vr vd vp ps M (rs ++ ds) L S X t vi acc k) := by
  have HTr : Hid (∀ W vl xs (i : Nat) (q : Int), q = (vv vi i : Int) → BI w0 w base v vr vd vp ps M L S X vl xs W → Calls Tryz.prog 21 #[.pointer (some ⟨v, 0, none⟩), .int .u64 (t : Int), .int .u64 q, .int .i64 acc] W fun e w' => e = .returned (.tuple #[.int .u64 ((ad (rs ++ ds) M t vi acc i).1 : Int), .agg #[.int .i64 (ad (rs ++ ds) M t vi acc i).2, .int .u64 (whyAt (ad (rs ++ ds) M t vi acc i).2 (vv vi i) : Int)]]) ∧ BI w0 w base v vr vd vp ps M L S X vl xs w') := fun W vl xs i q hq hI => by
    rw [hq]
    have hvv : vv vi i ≤ 18446744073709551615 := by unfold vv; omega
    refine (rtrans_at (w0 := w0) (rs := rs) (ds := ds) (root := t) (virt := vv vi i) (acc := acc) hI.mac hI.below hv0 (Nat.lt_of_lt_of_le hvs hI.keeps.size) hr hd hs hll hX ht hvv).mono ?_
    rintro e w' ⟨rfl, h1, h2⟩
    exact ⟨rfl, hI.to_keeps hv0 hvs h2 h1⟩
  have HOf : Hid (∀ W vl xs (a : Nat), a ≤ 18446744073709551615 → BI w0 w base v vr vd vp ps M L S X vl xs W → Calls Tryz.prog 56 #[.pointer (some ⟨v, 0, none⟩), .int .u64 (a : Int), .int .i64 1] W fun e w' => (∃ x b, e = .returned (.tuple #[.int .u64 x, .bool b]) ∧ (b = true → ¬ On (rs ++ ds) (a : Int)) ∧ (b = false → On (rs ++ ds) (a : Int))) ∧ BI w0 w base v vr vd vp ps M L S X vl xs w') := fun W vl xs a ha hI => by
    refine (roff_any (n := 1) hI.mac.2.1 (hr.below hI.below (Nat.le_refl _)) (hd.below hI.below (Nat.le_refl _)) hs hll ha (by omega)).mono ?_
    rintro e w' ⟨⟨x, b, rfl, h1, h2⟩, hb⟩
    refine ⟨⟨x, b, rfl, fun e => ?_, fun e => ?_⟩, hI.to_below hb⟩
    · obtain ⟨i, hi, _, _, hn, _⟩ := h1 e
      obtain rfl : i = 0 := by omega
      simpa using hn
    · have := (h2 e).2 0 (by omega)
      simpa using this
  obtain ⟨W1, hW1⟩ : ∃ W1, w.alloc (Obj.cells #[.int .i64 0, .int .u64 0] 41) = W1 := ⟨_, rfl⟩
  have HI1 : Hid (BI w0 w base v vr vd vp ps M L S X (.slice none 0 0) (adL (rs ++ ds) M t vi acc 0) W1) := by
    have hb : Below w.heap.size w W1 := hW1 ▸ (Below.refl _ w).alloc (Nat.le_refl _) _
    refine ⟨hb0.trans (hb.mono hb0.size), Keeps.of_below hb, h.below hb, hW1 ▸ BoxG.new w 0 0, ?_⟩
    exact OwnA.nil W1 _
  have HW0 := Lib.hid hb0.size
  clear h hb0 hr hd hs hll hX
  generalize rs ++ ds = LL at *
  have hk1 : k ≤ 8 := by rcases hk with rfl | rfl | rfl | rfl <;> omega
  go_enter Tryz.func47, Tryz.ntmps47
  go_upto_region 1 with fail
  go_cut [32] (fun y wx => y = .bool false ∧ wx = W1)
  case first =>
    clear HTr HOf HI1
    rcases hk with rfl | rfl | rfl | rfl
    all_goals
      go_wp2_with fail
      go_meet
      exact ⟨rfl, rfl⟩
  case rest =>
  obtain ⟨rfl, rfl⟩ := hcut
  clear hW1
  go_wp2_with fail
  go_loopw [12, 13] (fun lv iv wr => ∃ (i : Nat) (a : Option Addr) (n c : Nat), lv = .slice a n c ∧ iv = .int .i64 (i : Int) ∧ i ≤ k ∧ Hid (∀ j, j < i → (ad LL M t vi acc j).2 = 0) ∧ Hid (BI w0 w base v vr vd vp ps M L S X (.slice a n c) (adL LL M t vi acc i) wr)) (fun _ iv _ => k - (intOf iv).toNat)
  case atStart => exact ⟨0, none, 0, 0, rfl, rfl, Nat.zero_le _, fun j hj => absurd hj (by omega), HI1⟩
  case round =>
    obtain ⟨i, al, nl, cl, rfl, rfl, hi, HZ, HI⟩ := hrel
    clear HI1
    by_cases hlt : i < k
    · have qi : (i : Int) < (k : Int) := by omega
      have hqq : ((vv vi i : Nat) : Int) = ((vi : Int) + (i : Int)) % 18446744073709551616 := by unfold vv; omega
      obtain ⟨P, K, hPK⟩ : ∃ (P : Nat) (K : Int), ad LL M t vi acc i = (P, K) := ⟨_, _, rfl⟩
      have HPK := Lib.hid hPK
      have HT1 : Hid (∀ W (q : Int), q = (vv vi i : Int) → BI w0 w base v vr vd vp ps M L S X (.slice al nl cl) (adL LL M t vi acc i) W → Calls Tryz.prog 21 #[.pointer (some ⟨v, 0, none⟩), .int .u64 (t : Int), .int .u64 q, .int .i64 acc] W fun e w' => e = .returned (.tuple #[.int .u64 (P : Int), .agg #[.int .i64 K, .int .u64 (whyAt K (vv vi i) : Int)]]) ∧ BI w0 w base v vr vd vp ps M L S X (.slice al nl cl) (adL LL M t vi acc i) w') := fun W q hq hI => by
        have := HTr.out W _ _ i q hq hI
        rw [hPK] at this
        exact this
      obtain ⟨Aw, hAw⟩ : ∃ Aw, Aw = whyAt K (vv vi i) := ⟨_, rfl⟩
      have HAw := Lib.hid hAw
      rw [← hAw] at HT1
      have HQ := Lib.hid hqq
      clear hPK hAw hqq HTr HOf
      go_upto_region 7 with fail
      go_wp2_with fail
      refine (HT1.out _ _ (by rw [HQ.out]; first | rfl | (simp only [IntKind.wrap_u64]; omega)) HI.out).mono ?_
      rintro e w2 ⟨rfl, hI2⟩
      have HI2 := Lib.hid hI2
      clear hI2 HT1 HI
      go_upto_region 8 with fail
      obtain ⟨W2, hW2⟩ : ∃ W2, w2.alloc (Obj.cells #[.int .i64 K, .int .u64 (Aw : Int)] 41) = W2 := ⟨_, rfl⟩
      have HI3 : Hid (BI w0 w base v vr vd vp ps M L S X (.slice al nl cl) (adL LL M t vi acc i) W2) := hW2 ▸ HI2.out.to_below ((Below.refl _ _).alloc (Nat.le_refl _) _)
      have HG3 : Hid (BoxG W2 w2.heap.size K (Aw : Int)) := hW2 ▸ BoxG.new w2 K (Aw : Int)
      have hlw2 : w.heap.size < w2.heap.size := HI2.out.fault.lt
      rw [hW2]
      clear hW2 HI2
      obtain ⟨g0, g1, _, _⟩ := HG3.out.cells
      obtain ⟨q0, q1, q2, q3⟩ := HI3.out.fault.cells
      by_cases hK : K = 0
      · subst hK
        obtain ⟨a2, n2, c2, w4, hr4, hI4⟩ := HI3.out.append HW0.out P (by rw [adL_len]; omega)
        have hp : (ad LL M t vi acc i).1 = P := by rw [HPK.out]
        have hz : (ad LL M t vi acc i).2 = 0 := by rw [HPK.out]
        rw [← hp, ← adL_succ] at hI4
        have HI4 := Lib.hid hI4
        have HZ2 : Hid (∀ j, j < i + 1 → (ad LL M t vi acc j).2 = 0) := fun j hj => by
          by_cases e : j = i
          · rw [e]; exact hz
          · exact HZ.out j (by omega)
        clear hI4 hp hz HZ HPK HAw HI3 HG3 q0 q1 q2 q3
        go_wp2_with fail
        exact ⟨⟨i + 1, a2, n2, c2, rfl, by go_num, by omega, HZ2, HI4⟩, by simp [intOf]; omega⟩
      · have hKn : (K != 0) = true := by simpa using hK
        have hre : reachF LL M t vi acc k = some (K, vv vi i) := by
          have := reach_tr (LL := LL) (M := M) (t := t) (v := vi) (acc := acc) (i := i) (k := k) HZ.out (by rw [HPK.out]; exact hK) hlt
          rw [HPK.out] at this
          exact this
        have hA : Aw = vv vi i := by rw [HAw.out]; unfold whyAt; rw [if_neg hK]
        have HRe := Lib.hid hre
        have HA := Lib.hid hA
        have HF : Hid (RM ((W2.setCell ⟨w.heap.size, 0, none⟩ (.int .i64 K)).setCell ⟨w.heap.size, 1, none⟩ (.int .u64 (Aw : Int))) base v vr vd vp ps M L S X ∧ Keeps (fun j => j = v) w ((W2.setCell ⟨w.heap.size, 0, none⟩ (.int .i64 K)).setCell ⟨w.heap.size, 1, none⟩ (.int .u64 (Aw : Int)))) := HI3.out.fin K (Aw : Int)
        obtain ⟨s0, s1, _, _⟩ := (HI3.out.fault.set K (Aw : Int)).cells
        clear hre hA HZ HPK HAw HI3 HG3 hK
        go_upto_region 9 with fail
        go_region
        all_goals
          go_wp2_with fail
          refine bodyPost_ret (v := .tuple #[.slice none 0 0, .agg #[.int .i64 K, .int .u64 (Aw : Int)]]) (by simp [results, Tryz.results47, go_sem, s0, s1]) rfl ?_
          exact ⟨HF.out.1, HF.out.2.drew, .inl ⟨K, vv vi i, HRe.out, by rw [HA.out]⟩⟩
    · have qi : ¬ (i : Int) < (k : Int) := by omega
      obtain rfl : i = k := by omega
      obtain ⟨a', c', hsl, hc1, hc2⟩ := HI.out.row.form
      rw [adL_len] at hsl hc1
      injection hsl with e1 e2 e3
      subst e1 e2 e3
      unfold maxLen at hc2
      clear qi hi HTr
      go_wp2_with fail
      go_loopw [16] (fun jv wr => ∃ j : Nat, jv = .int .i64 (j : Int) ∧ j ≤ nl ∧ Hid (∀ q, q < j → On LL ((ad LL M t vi acc q).1 : Int)) ∧ Hid (BI w0 w base v vr vd vp ps M L S X (.slice al nl cl) (adL LL M t vi acc nl) wr)) (fun jv _ => nl - (intOf jv).toNat)
      case atStart => exact ⟨0, rfl, Nat.zero_le _, fun q hq => absurd hq (by omega), HI⟩
      case round =>
        obtain ⟨j, rfl, hj, HO, HI5⟩ := hrel
        clear HI
        by_cases hjl : j < nl
        · have qj : (j : Int) < (nl : Int) := by omega
          obtain ⟨g, hal, hc⟩ := HI5.out.row.cell j (by rw [adL_len]; exact hjl)
          subst hal
          obtain ⟨P, hP⟩ : ∃ P, P = (ad LL M t vi acc j).1 := ⟨_, rfl⟩
          have hc3 : wr.cell? ⟨g, j, none⟩ = some (.int .u64 (P : Int)) := by
            rw [hc, hP]
            simp [adL]
          have hP2 : P ≤ 18446744073709551615 := by rw [hP]; exact adrF_le _ _ _ _ _
          have HP := Lib.hid hP
          have HO1 := Lib.hid (HOf.out wr _ _ P hP2 HI5.out)
          clear hc hP HOf
          go_upto_region 14 with fail
          go_wp2_with fail
          refine HO1.out.mono ?_
          rintro e w2 ⟨⟨x, b, rfl, hb1, hb2⟩, hI6⟩
          have HI6 := Lib.hid hI6
          have HB1 := Lib.hid hb1
          have HB2 := Lib.hid hb2
          clear hI6 hb1 hb2 HO1 HI5 hc3
          obtain ⟨q0, q1, q2, q3⟩ := HI6.out.fault.cells
          cases b
          · have HO2 : Hid (∀ q, q < j + 1 → On LL ((ad LL M t vi acc q).1 : Int)) := fun q hq => by
              by_cases e : q = j
              · rw [e, ← HP.out]; exact HB2.out rfl
              · exact HO.out q (by omega)
            clear HB1 HB2 HP HO q0 q1 q2 q3
            go_wp2_with fail
            exact ⟨⟨j + 1, by go_num, by omega, HO2, HI6⟩, by simp [intOf]; omega⟩
          · have hre : reachF LL M t vi acc nl = some (30, vv vi j) := reach_off HZ.out HO.out (by rw [← HP.out]; exact HB1.out rfl) hjl
            have HRe := Lib.hid hre
            have HF : Hid (∀ y : Int, RM ((w2.setCell ⟨w.heap.size, 0, none⟩ (.int .i64 30)).setCell ⟨w.heap.size, 1, none⟩ (.int .u64 y)) base v vr vd vp ps M L S X ∧ Keeps (fun j => j = v) w ((w2.setCell ⟨w.heap.size, 0, none⟩ (.int .i64 30)).setCell ⟨w.heap.size, 1, none⟩ (.int .u64 y))) := fun y => HI6.out.fin 30 y
            have hqq : IntKind.u64.wrap ((vi : Int) + (j : Int)) = ((vv vi j : Nat) : Int) := by unfold vv; rw [IntKind.wrap_u64]; omega
            obtain ⟨y, hy⟩ : ∃ y : Nat, y = vv vi j := ⟨_, rfl⟩
            rw [← hy] at hqq
            have HY := Lib.hid hy
            obtain ⟨s0, s1, _, _⟩ := (HI6.out.fault.set 30 (y : Int)).cells
            clear hre hy HB1 HB2 HP HO HZ HI6
            go_wp2_with fail
            refine bodyPost_ret (v := .tuple #[.slice none 0 0, .agg #[.int .i64 30, .int .u64 (y : Int)]]) (by simp [results, Tryz.results47, go_sem, s0, s1]) rfl ?_
            exact ⟨(HF.out _).1, (HF.out _).2, .inl ⟨30, vv vi j, HRe.out, by rw [HY.out]⟩⟩
        · have qj : ¬ (j : Int) < (nl : Int) := by omega
          obtain rfl : j = nl := by omega
          have hre : reachF LL M t vi acc j = none := reach_ok HZ.out HO.out
          have HRe := Lib.hid hre
          have HAl : Hid (∀ q, q < j → (ad LL M t vi acc q).2 = 0 ∧ On LL ((ad LL M t vi acc q).1 : Int)) := fun q hq => ⟨HZ.out q hq, HO.out q hq⟩
          obtain ⟨q0, q1, q2, q3⟩ := HI5.out.fault.cells
          obtain ⟨s0, s1, _, _⟩ := (HI5.out.fault.set 0 0).cells
          have hF := HI5.out.fin 0 0
          have hO : OwnA ((wr.setCell ⟨w.heap.size, 0, none⟩ (.int .i64 0)).setCell ⟨w.heap.size, 1, none⟩ (.int .u64 0)) (w.heap.size + 1) (.slice al j cl) (adL LL M t vi acc j) := HI5.out.row.keeps (Keeps.two wr w.heap.size (.int .i64 0) (.int .u64 0)) (fun k e e' => by
            have := (HI5.out.row.tag e).1
            have e' : k = w.heap.size := e'
            omega)
          have HF := Lib.hid hF
          have HOw := Lib.hid hO
          clear hre hF hO HZ HO HI5 HOf
          go_wp2_with fail
          refine bodyPost_ret (v := .tuple #[.slice al j cl, .agg #[.int .i64 0, .int .u64 0]]) (by simp [results, Tryz.results47, go_sem, s0, s1]) rfl ?_
          exact ⟨HF.out.1, HF.out.2, .inr ⟨HRe.out, HAl.out, _, rfl, HOw.out⟩⟩
end Go.Proofs.YtdkhhofgfbnmkaaGreat
/- The document's own Load through tables. Own work. -/
namespace Go.Proofs.YtdkhhofgfbnmkaaGreat
open Go.RowKit Go.Maps Go.Proofs.YtdkhhofgfbnmkaaGreat.Sp Wk Lv
/-- the number that bytes are, the lowest first -/
def smB (f : Nat → Nat) : Nat → Nat
  | 0 => 0
  | i + 1 => smB f i + f i * 256 ^ i
theorem smB_lt {f : Nat → Nat} (h : ∀ j, f j < 256) : ∀ i, smB f i < 256 ^ i
  | 0 => Nat.zero_lt_succ _
  | i + 1 => by
    have h1 := smB_lt h i
    have h2 : f i * 256 ^ i ≤ 255 * 256 ^ i := Nat.mul_le_mul_right _ (by have := h i; omega)
    rw [smB, Nat.pow_succ]
    omega
/-- what holds while the bytes are loaded -/
structure LI2 (w0 w : World) (base v gf gr : Nat) (vr vd vp : Value) (ps : List (Int × Nat)) (M : Nat → Nat) (L S X : Nat) (k a : Int) (vl : Value) (b0 : Nat) (xs : List Nat) (W : World) : Prop where
  below : Below w0.heap.size w0 W
  keeps : Keeps (fun j => j = v) w W
  mac : RM W base v vr vd vp ps M L S X
  zero : BoxG W gf 0 0
  fault : BoxG W gr k a
  row : OwnA W b0 vl xs
theorem LI2.step {w0 w : World} {base v gf gr : Nat} {vr vd vp : Value} {ps : List (Int × Nat)} {M : Nat → Nat} {L S X L' : Nat} {k a : Int} {vl : Value} {b0 : Nat} {xs : List Nat} {W W' : World} (h : LI2 w0 w base v gf gr vr vd vp ps M L S X k a vl b0 xs W) (hv0 : w0.heap.size ≤ v) (hf : gf ≠ v) (hg : gr ≠ v) (hb : v < b0) (hk : Keeps (fun j => j = v) W W') (hm : RM W' base v vr vd vp ps M L' S X) : LI2 w0 w base v gf gr vr vd vp ps M L' S X k a vl b0 xs W' :=
  ⟨below_keeps h.below hk (fun j e => by rw [e]; exact hv0), h.keeps.trans hk (fun _ _ e => e), hm, h.zero.keeps hk hf, h.fault.keeps hk hg, h.row.keeps hk (fun j e e' => by
    have := (h.row.tag e).1
    have e' : j = v := e'
    omega)⟩
/-- what the document's Load answers -/
def LdP (w : World) (base v : Nat) (vr vd vp : Value) (ps : List (Int × Nat)) (M : Nat → Nat) (LL : List Sp) (L S X t vi : Nat) (acc : Int) (k : Nat) (e : Ending) (w' : World) : Prop :=
  Keeps (fun j => j = v) w w' ∧ ((∃ why x, reachF LL M t vi acc k = some (why, x) ∧ e = .returned (.tuple #[.int .u64 0, .agg #[.int .i64 why, .int .u64 (x : Int)]]) ∧ RM w' base v vr vd vp ps M L S X) ∨ (reachF LL M t vi acc k = none ∧ e = .returned (.tuple #[.int .u64 (smB (fun j => M (ad LL M t vi acc j).1) k : Int), .agg #[.int .i64 0, .int .u64 0]]) ∧ RM w' base v vr vd vp ps M (L + k) S X))
set_option maxRecDepth 100000 in
set_option maxHeartbeats 4000000 in
theorem rld_of {w0 w : World} {base v : Nat} {vr vd vp : Value} {ps : List (Int × Nat)} {M : Nat → Nat} {L S X : Nat} {rs ds : List Sp} {t vi k : Nat} {acc : Int} (h : RM w base v vr vd vp ps M L S X) (hb0 : Below w0.heap.size w0 w) (hv0 : w0.heap.size ≤ v) (hvs : v < w.heap.size) (hr : U64.SV w0 vr rs) (hd : U64.SV w0 vd ds) (hs : Sane (rs ++ ds)) (hll : rs.length + ds.length ≤ 64) (hX : X ≤ 4611686018427387904) (hL : L ≤ 4611686018427387000) (ht : t ≤ 18446744073709551615) (hk : Wide k) :
    Calls Tryz.prog 23 #[.pointer (some ⟨v, 0, none⟩), .int .u64 (t : Int), .int .u64 (vi : Int), .int .i64 (k : Int), .int .i64 acc] w (LdP w base v vr vd vp ps M (rs ++ ds) L S X t vi acc k) := by
  obtain ⟨W1, hW1⟩ : ∃ W1, w.alloc (Obj.cells #[.int .i64 0, .int .u64 0] 41) = W1 := ⟨_, rfl⟩
  have HB1 : Hid (Below w.heap.size w W1) := hW1 ▸ (Below.refl _ w).alloc (Nat.le_refl _) _
  have HG1 : Hid (BoxG W1 w.heap.size 0 0) := hW1 ▸ BoxG.new w 0 0
  have hs1 : W1.heap.size = w.heap.size + 1 := by rw [← hW1]; simp
  have HBs := Lib.hid (rbytes_of (w0 := w0) (rs := rs) (ds := ds) (t := t) (vi := vi) (k := k) (acc := acc) (h.below HB1.out) (hb0.trans (HB1.out.mono hb0.size)) hv0 (by omega) hr hd hs hll hX ht hk)
  have HM : Hid (∀ p, M p < 256) := h.2.2.2.2.2.2.1
  have HLd : Hid (∀ W gf gr (c a : Int) vl b0 xs (q p : Nat), q ≤ 4611686018427387904 → p ≤ 18446744073709551615 → On (rs ++ ds) (p : Int) → gf ≠ v → gr ≠ v → v < b0 → LI2 w0 w base v gf gr vr vd vp ps M q S X c a vl b0 xs W → Calls Tryz.prog 48 #[.pointer (some ⟨v, 0, none⟩), .int .u64 (p : Int), .int .i64 1] W fun e w' => e = .returned (.tuple #[.int .u64 (M p : Int), .agg #[.int .i64 0, .int .u64 0]]) ∧ LI2 w0 w base v gf gr vr vd vp ps M (q + 1) S X c a vl b0 xs w') := fun W gf gr c a vl b0 xs q p hq hp ho h1 h2 h3 hI => by
    refine (rload_at (n := 1) hI.mac (.inl rfl) (hr.below hI.below (Nat.le_refl _)) (hd.below hI.below (Nat.le_refl _)) hs hll hp hX hq).mono ?_
    rintro e w' ⟨x, b, hof, rfl, hm, hkk⟩
    cases b with
    | true =>
      obtain ⟨i, hi, _, _, hn, _⟩ := hof.1 rfl
      obtain rfl : i = 0 := by omega
      exact absurd (by simpa using ho) hn
    | false =>
      obtain ⟨rfl, _⟩ := hof.2 rfl
      refine ⟨?_, hI.step hv0 h1 h2 h3 hkk hm⟩
      show Ending.returned (.tuple #[.int .u64 ((Pl.num 8 (rdTo M p 8 1) : Nat) : Int), FaultV 0 0]) = _
      rw [num_one]
      rfl
  have HW0 := Lib.hid hb0
  have hk1 : k ≤ 8 ∧ 1 ≤ k := by rcases hk with rfl | rfl | rfl | rfl <;> omega
  clear h hr hd hs hll hX hb0 hk
  generalize rs ++ ds = LL at *
  go_enter Tryz.func23, Tryz.ntmps23
  go_wp2_with fail
  refine HBs.out.mono ?_
  rintro e w2 ⟨hm2, hk2, hc⟩
  have HMk : Hid (∀ (K A : Int) vl xs, OwnA w2 (W1.heap.size + 1) vl xs → LI2 w0 w base v w.heap.size w2.heap.size vr vd vp ps M L S X K A vl (W1.heap.size + 1) xs (w2.alloc (Obj.cells #[.int .i64 K, .int .u64 A] 41))) := fun K A vl xs ho => by
    have hb : Below w2.heap.size w2 (w2.alloc (Obj.cells #[.int .i64 K, .int .u64 A] 41)) := (Below.refl _ _).alloc (Nat.le_refl _) _
    have hb1 : Below w0.heap.size w0 w2 := below_keeps (HW0.out.trans (HB1.out.mono HW0.out.size)) hk2 (fun j e => by rw [e]; exact hv0)
    exact ⟨hb1.trans (hb.mono hb1.size), ((Keeps.of_below (S := fun j => j = v) HB1.out).trans hk2 (fun _ _ e => e)).trans (Keeps.of_below (S := fun _ => False) hb) (fun _ _ e => e.elim), hm2.below hb, (HG1.out.keeps hk2 (by omega)).below hb, BoxG.new w2 K A, ho.below hb⟩
  have hz2 : w.heap.size + 1 ≤ w2.heap.size := by rw [← hs1]; exact hk2.size
  have HS1 := Lib.hid hs1
  have HEnd : Hid (∀ q (K A : Int) vl xs W, LI2 w0 w base v w.heap.size w2.heap.size vr vd vp ps M q S X K A vl (W1.heap.size + 1) xs W → RM ((W.setCell ⟨w.heap.size, 0, none⟩ (.int .i64 K)).setCell ⟨w.heap.size, 1, none⟩ (.int .u64 A)) base v vr vd vp ps M q S X ∧ Keeps (fun j => j = v) w ((W.setCell ⟨w.heap.size, 0, none⟩ (.int .i64 K)).setCell ⟨w.heap.size, 1, none⟩ (.int .u64 A))) := fun q K A vl xs W hI => by
    have hk := Keeps.two W w.heap.size (.int .i64 K) (.int .u64 A)
    refine ⟨hI.mac.keeps hk (fun j hj e => ?_), hI.keeps.trans hk (fun j hj e => by omega)⟩
    have e : j = w.heap.size := e
    obtain ⟨_, c, ty, fr, hc, ht⟩ := hj
    rw [e, show W.heap[w.heap.size]? = _ from hI.zero] at hc
    cases hc
    rcases ht with ht | ht | ht <;> cases ht
  rcases hc with ⟨why, x, hre, rfl⟩ | ⟨hre, hall, vl, rfl, hown⟩
  · have HRe := Lib.hid hre
    have HI3 := Lib.hid (HMk.out why (x : Int) (.slice none 0 0) [] (OwnA.nil _ _))
    clear hm2 hk2 hre HMk HBs HLd hW1 HB1 HG1 HM hs1
    go_upto_region 2 with fail
    obtain ⟨W3, hW3⟩ : ∃ W3, w2.alloc (Obj.cells #[.int .i64 why, .int .u64 (x : Int)] 41) = W3 := ⟨_, rfl⟩
    rw [hW3] at HI3 ⊢
    clear hW3
    obtain ⟨g0, g1, _, _⟩ := HI3.out.fault.cells
    obtain ⟨q0, q1, q2, q3⟩ := HI3.out.zero.cells
    obtain ⟨s0, s1, _, _⟩ := (HI3.out.zero.set why (x : Int)).cells
    have HF := Lib.hid (HEnd.out _ why (x : Int) _ _ _ HI3.out)
    clear HI3 HEnd
    go_wp2_with fail
    refine wp_loop_rounds 1 ?_
    rw [rounds_succ]
    go_wp2_with fail
    go_region
    all_goals
      go_wp2_with fail
      refine bodyPost_ret (v := .tuple #[.int .u64 0, .agg #[.int .i64 why, .int .u64 (x : Int)]]) (by simp [results, Tryz.results23, go_sem, s0, s1]) rfl ?_
      exact ⟨HF.out.2.drew, .inl ⟨why, x, HRe.out, rfl, HF.out.1⟩⟩
  · have HRe := Lib.hid hre
    have HAl := Lib.hid hall
    have HI3 := Lib.hid (HMk.out 0 0 vl (adL LL M t vi acc k) hown)
    obtain ⟨al, cl, rfl, hc1, hc2⟩ := hown.form
    rw [adL_len] at hc1 HI3 ⊢
    unfold maxLen at hc2
    clear hm2 hk2 hre hall hown HMk HBs hW1 HB1 HG1 hs1
    go_upto_region 2 with fail
    obtain ⟨W3, hW3⟩ : ∃ W3, w2.alloc (Obj.cells #[.int .i64 0, .int .u64 0] 41) = W3 := ⟨_, rfl⟩
    rw [hW3] at HI3 ⊢
    clear hW3
    obtain ⟨F, hF⟩ : ∃ F : Nat → Nat, F = fun j => M (ad LL M t vi acc j).1 := ⟨_, rfl⟩
    have HFm : Hid (∀ j, F j < 256) := fun j => by rw [hF]; exact HM.out _
    have HFe := Lib.hid hF
    clear hF
    go_wp2_with fail
    go_loopw [14, 15] (fun nv iv wr => ∃ i : Nat, nv = .int .u64 (smB F i : Int) ∧ iv = .int .i64 (i : Int) ∧ i ≤ k ∧ Hid (LI2 w0 w base v w.heap.size w2.heap.size vr vd vp ps M (L + i) S X 0 0 (.slice al k cl) (W1.heap.size + 1) (adL LL M t vi acc k) wr)) (fun _ iv _ => k - (intOf iv).toNat)
    case atStart => exact ⟨0, rfl, rfl, Nat.zero_le _, HI3⟩
    case round =>
      obtain ⟨i, rfl, rfl, hi, HI4⟩ := hrel
      clear HI3
      by_cases hlt : i < k
      · have qi : (i : Int) < (k : Int) := by omega
        obtain ⟨g, hal, hc⟩ := HI4.out.row.cell i (by rw [adL_len]; exact hlt)
        subst hal
        obtain ⟨P, hP⟩ : ∃ P, P = (ad LL M t vi acc i).1 := ⟨_, rfl⟩
        have hc3 : wr.cell? ⟨g, i, none⟩ = some (.int .u64 (P : Int)) := by
          rw [hc, hP]
          simp [adL]
        have hP2 : P ≤ 18446744073709551615 := by rw [hP]; exact adrF_le _ _ _ _ _
        obtain ⟨mm, hmm⟩ : ∃ mm, mm = M P := ⟨_, rfl⟩
        have hm0 : mm = F i := by rw [hmm, HFe.out, hP]
        have hm1 : mm < 256 := by rw [hm0]; exact HFm.out i
        have HO1 := Lib.hid (HLd.out wr _ _ _ _ _ _ _ (L + i) P (by omega) hP2 (by rw [hP]; exact (HAl.out i hlt).2) (by omega) (by omega) (by have := HS1.out; omega) HI4.out)
        rw [← hmm] at HO1
        have hsl := smB_lt HFm.out i
        obtain ⟨sm, hsm⟩ : ∃ sm, sm = smB F i := ⟨_, rfl⟩
        rw [← hsm] at hsl ⊢
        have HSm : Hid (smB F (i + 1) = sm + mm * 256 ^ i) := by show _ = _; rw [smB, hsm, hm0]
        clear hc hP hmm hm0 hsm HLd HFe HFm HAl HM HI4
        go_upto_region 6 with fail
        go_wp2_with fail
        refine HO1.out.mono ?_
        rintro e w5 ⟨rfl, hI5⟩
        have hb : Below w5.heap.size w5 (w5.alloc (Obj.cells #[.int .i64 0, .int .u64 0] 41)) := (Below.refl _ _).alloc (Nat.le_refl _) _
        have HI6 : Hid (LI2 w0 w base v w.heap.size w2.heap.size vr vd vp ps M (L + (i + 1)) S X 0 0 (.slice (some ⟨g, 0, none⟩) k cl) (W1.heap.size + 1) (adL LL M t vi acc k) (w5.alloc (Obj.cells #[.int .i64 0, .int .u64 0] 41))) := ⟨hI5.below.trans (hb.mono hI5.below.size), hI5.keeps.trans (Keeps.of_below (S := fun _ => False) hb) (fun _ _ e => e.elim), hI5.mac.below hb, hI5.zero.below hb, hI5.fault.below hb, hI5.row.below hb⟩
        clear hI5 hb HO1 hc3
        go_upto_region 7 with fail
        obtain ⟨W6, hW6⟩ : ∃ W6, w5.alloc (Obj.cells #[.int .i64 0, .int .u64 0] 41) = W6 := ⟨_, rfl⟩
        rw [hW6] at HI6 ⊢
        clear hW6
        have hi8 : i < 8 := by omega
        rcases (by omega : i = 0 ∨ i = 1 ∨ i = 2 ∨ i = 3 ∨ i = 4 ∨ i = 5 ∨ i = 6 ∨ i = 7) with rfl | rfl | rfl | rfl | rfl | rfl | rfl | rfl
        all_goals
          simp only [Nat.reducePow, Nat.reduceAdd, Nat.pow_zero, Nat.mul_one] at hsl HSm
          go_wp2_with fail
          refine ⟨⟨_, ?_, by go_num, by omega, HI6⟩, by simp [intOf]; omega⟩
          rw [HSm.out]
          congr 1
      · have qi : ¬ (i : Int) < (k : Int) := by omega
        obtain rfl : i = k := by omega
        obtain ⟨g0, g1, _, _⟩ := HI4.out.fault.cells
        obtain ⟨q0, q1, q2, q3⟩ := HI4.out.zero.cells
        obtain ⟨s0, s1, _, _⟩ := (HI4.out.zero.set 0 0).cells
        have HF := Lib.hid (HEnd.out _ 0 0 _ _ _ HI4.out)
        clear HI4 HEnd HLd HFm HAl HM
        go_wp2_with fail
        go_region
        all_goals
          go_wp2_with fail
          refine bodyPost_ret (v := .tuple #[.int .u64 (smB F i : Int), .agg #[.int .i64 0, .int .u64 0]]) (by simp [results, Tryz.results23, go_sem, s0, s1]) rfl ?_
          exact ⟨HF.out.2.drew, .inr ⟨HRe.out, by rw [HFe.out], HF.out.1⟩⟩
end Go.Proofs.YtdkhhofgfbnmkaaGreat
