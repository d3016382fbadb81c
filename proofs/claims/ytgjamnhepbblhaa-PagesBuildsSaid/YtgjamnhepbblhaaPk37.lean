import Derived.Test.YtgjamnhepbblhaaPk36
import Derived.Test.YtgjamnhepbblhaaPk12
import Derived.Laws.CopyOwn
/- The marks of tables; a book of tables, as a law sees it (written by parts/gen_tkm.py off BkMark). Own work. -/
namespace Go.Proofs.Ytgjamnhepbblhaa
open Go.RowKit Wk Go.Shelf
set_option linter.unusedVariables false
/-- the mark of the place j of the list i -/
def markU (i j : Nat) : Int × Int := ((i : Int) + 1, (j : Int))
def mrow (a b : Int) : Array Value := #[.int .u64 a, .int .u64 b] ++ Array.replicate 510 (.int .u64 0)
set_option maxRecDepth 100000 in
theorem m_build (a b : Int) (W : World) : (Instr.build 40 #[(0, .int .u64 a), (1, .int .u64 b)]).run Try.prog W = .ok (.agg (mrow a b)) W := run_build W _ _ _ (by kernel_rfl)
theorem mrow_tab (a b : Nat) : mrow (a : Int) (b : Int) = tabV (setT (setT (fun _ => 0) 0 a) 1 b) := by
  apply Array.ext_getElem?
  intro r
  by_cases hr : r < 512
  · rw [tabV_get _ hr]
    unfold mrow
    by_cases h0 : r = 0
    · subst h0; simp [setT]
    · by_cases h1 : r = 1
      · subst h1; simp [setT]
      · rw [Array.getElem?_append_right (show (#[Value.int .u64 (a : Int), .int .u64 (b : Int)] : Array Value).size ≤ r by show 2 ≤ r; omega), Array.getElem?_replicate, if_pos (show r - (#[Value.int .u64 (a : Int), .int .u64 (b : Int)] : Array Value).size < 510 by show r - 2 < 510; omega)]
        simp [setT, h0, h1]
  · rw [Array.getElem?_eq_none (by simp [mrow]; omega), Array.getElem?_eq_none (by rw [tabV_size]; omega)]
theorem wpList_mbuild {ops : Array Oper} {rest : List Oper} {o : Oper} {a : Act} {w : World} {Q : Exit → Act → World → Prop} (hgd : o.guard = none) (parts : Array (Nat × Operand)) (ho : o.op = .build 40 parts) (vals : Array (Nat × Value)) (hv : (parts.map fun (i, x) => (i, a.eval x)) = vals) {V : Value} (hr : ∀ W, (Instr.build 40 vals).run Try.prog W = .ok V W) (h : wpList Try.prog ops Q rest (a.put o.dst V) w) : wpList Try.prog ops Q (o :: rest) a w :=
  wpList_plain hgd fun K hK => by
    unfold Oper.wp execOp
    simp only [ho, Sem.run_bind, Sem.run_pure, Result.andThen_ok, hv, hr]
    exact hK _ _ h
theorem keeps_setRow (w : World) (b : Nat) (c : Array Value) : Keeps (fun k => k = b) w (w.setRow b c) := ⟨rfl, rfl, rfl, by simp [World.setRow], fun k _ hk => setRow_other w b k _ hk⟩
set_option maxRecDepth 100000 in
set_option maxHeartbeats 4000000 in
theorem markU_any (i j : Nat) (w : World) (_hi : i ≤ 4000) (_hj : j < maxLen) :
    Calls Try.prog 9 #[.int .i64 (i : Int), .int .i64 (j : Int)] w fun e w' => e = .returned (.agg (mkU (markU i j).1 (markU i j).2)) ∧ Keeps (fun _ => False) w w' := by
  have hz := tab_zero.1
  have hj9 : (j : Int) < 9223372036854775808 := by unfold maxLen at _hj; omega
  have hw0 : IntKind.u64.wrap (i : Int) = (i : Int) := by rw [IntKind.wrap_u64]; omega
  have hw1 : IntKind.u64.wrap ((i : Int) + 1) = (i : Int) + 1 := by rw [IntKind.wrap_u64]; omega
  have hw2 : IntKind.u64.wrap (j : Int) = (j : Int) := by rw [IntKind.wrap_u64]; omega
  obtain ⟨W0, hW0⟩ : ∃ W0, w.alloc (.cells (tabV fun _ => 0) 40) = W0 := ⟨_, rfl⟩
  have HP0 : Hid (TabAt W0 w.heap.size (fun _ => 0)) := hW0 ▸ TabAt.new w _
  have HK0 : Hid (Keeps (fun _ => False) w W0) := hW0 ▸ Keeps.alloc w _
  obtain ⟨g, hg⟩ : ∃ g, mkT (markU i j).1 (markU i j).2 = g := ⟨_, rfl⟩
  have HM : Hid (∀ W, (Instr.build 40 #[(0, .int .u64 ((i : Int) + 1)), (1, .int .u64 (j : Int))]).run Try.prog W = .ok (.agg (tabV g)) W) := fun W => by
    rw [m_build, ← hg]
    have := mrow_tab (i + 1) j
    rw [show ((i + 1 : Nat) : Int) = (i : Int) + 1 by omega] at this
    rw [this]
    rfl
  have HE : Hid (mkU (markU i j).1 (markU i j).2 = tabV g) := show _ = _ by rw [mkU, hg]
  clear hg
  go_enter Try.func9, Try.ntmps9
  go_upto_region 1 with fail
  clear hW0 hz
  go_wp2_with (first | (refine wpList_mbuild rfl #[(0, .tmp 7), (1, .tmp 9)] rfl #[(0, .int .u64 ((i : Int) + 1)), (1, .int .u64 (j : Int))] (by simp [Act.eval, Act.put]) (fun W => HM.out W) ?_) | (refine wpList_store_tab (b := w.heap.size) (g := g) rfl (.tmp 4) (.tmp 10) rfl rfl rfl rfl HP0.out ?_))
  have HS := Lib.hid (HP0.out.setRow g)
  refine bodyPost_ret (v := .agg (tabV g)) (ret_tab rfl (by rfl) HS.out) rfl ⟨by rw [HE.out], ?_⟩
  refine HK0.out.trans (S' := fun k => k = w.heap.size) (keeps_setRow _ _ _) (fun k hk e => by omega)
theorem mem_blksU {E : List EntU} {k : Nat} : k ∈ blksU E ↔ ∃ x ∈ E, x.lv.ownBlock = some k ∨ x.wv.ownBlock = some k := by
  simp [blksU, EntU.bl, List.mem_flatMap, Option.mem_toList]
theorem BkU.bw {w : World} {base kb : Nat} {lv wv : Value} {held : Int} {E : List EntU} (h : BkU w base kb lv wv held E) : BwU w base kb lv wv held (E.map EntU.lv) (E.map EntU.wv) := ⟨h.blk, h.lrow, h.wrow, h.ne⟩
theorem blksU_lt {w : World} {base : Nat} {E : List EntU} (he : ∀ x ∈ E, x.ok w base) : ∀ k ∈ blksU E, k < w.heap.size := fun k hk => by
  obtain ⟨x, hx, h | h⟩ := mem_blksU.1 hk
  · exact ((he x hx).l.lt k h).2
  · exact ((he x hx).w.lt k h).2
theorem bkU_new {w : World} {base kb : Nat} (h : w.heap[kb]? = some (.cells #[.slice none 0 0, .slice none 0 0, .int .i64 0, .bool false] 27 (0, 0))) : BkU w base kb (.slice none 0 0) (.slice none 0 0) 0 [] :=
  ⟨h, RowV.nil _ _ _, RowV.nil _ _ _, fun _ e => (by cases e), fun _ h => (by cases h), List.nodup_nil⟩
theorem blksU_append (E F : List EntU) : blksU (E ++ F) = blksU E ++ blksU F := by simp [blksU]
theorem bkU_keep {w : World} {base kb : Nat} {lv wv : Value} {held : Int} {E : List EntU} {la : Option Addr} {ln lc : Nat} {xs : TM} (h : BkU w base kb lv wv held E) (hl : OwnU w base (.slice la ln lc) xs) (hxs : SmU xs) (hsm : SmU xs) (hlen : E.length ≤ 4000) (hbase : base ≤ w.heap.size) (hf : ∀ k, (Value.slice la ln lc).ownBlock = some k → k ∉ blksU E) :
    Calls Try.prog 22 #[.pointer (some ⟨kb, 0, none⟩), .slice la ln lc] w fun e w' => e = .returned (.tuple #[]) ∧ ∃ lv' wv' held' E', BkU w' base kb lv' wv' held' E' ∧ E'.length ≤ 4000 ∧ (∀ k ∈ blksU E', k ∈ blksU E ∨ (Value.slice la ln lc).ownBlock = some k ∨ w.heap.size ≤ k) ∧ KeU base kb w w' := by
  refine (keepU_any h.bw h.ents hl hxs hsm hlen hbase).mono ?_
  rintro e w' ⟨rfl, cv, hcv, E', hk, hl'⟩
  obtain ⟨lv', wv', held', hb⟩ := hk.bw
  have hsub : (blksU E').Sublist (blksU (E ++ [⟨.slice la ln lc, cv, xs⟩])) := by
    obtain ⟨t, ht⟩ := hk.suf
    rw [← ht, blksU_append]
    exact List.sublist_append_right _ _
  have hbl : blksU (E ++ [⟨.slice la ln lc, cv, xs⟩]) = blksU E ++ ((Value.slice la ln lc).ownBlock.toList ++ cv.ownBlock.toList) := by rw [blksU_append]; simp [blksU, EntU.bl]
  have hlt := blksU_lt h.ents
  have hnd : (blksU (E ++ [⟨.slice la ln lc, cv, xs⟩])).Nodup := by
    rw [hbl]
    refine List.nodup_append.2 ⟨h.nodup, List.nodup_append.2 ⟨?_, ?_, fun a ha b hb e => ?_⟩, fun a ha b hb e => ?_⟩
    · cases (Value.slice la ln lc).ownBlock <;> simp
    · cases cv.ownBlock <;> simp
    · subst e
      have h1 := (hl.lt a (by simpa using ha)).2
      have h2 := hcv a (by simpa using hb)
      omega
    · subst e
      rcases List.mem_append.1 hb with hb | hb
      · exact hf a (by simpa using hb) ha
      · have h1 := hlt a ha
        have h2 := hcv a (by simpa using hb)
        omega
  refine ⟨rfl, lv', wv', held', E', ⟨hb.blk, hb.lrow, hb.wrow, hb.ne, hk.ents, hnd.sublist hsub⟩, hl', fun k hk' => ?_, hk.ke⟩
  have := hsub.subset hk'
  rw [hbl] at this
  rcases List.mem_append.1 this with h1 | h1
  · exact .inl h1
  · rcases List.mem_append.1 h1 with h1 | h1
    · exact .inr (.inl (by simpa using h1))
    · exact .inr (.inr (hcv k (by simpa using h1)))
theorem disU_of {E : List EntU} (h : (blksU E).Nodup) : DisU E := by
  intro i i' hi hi' hne g n c g' n' c' e e' hg
  subst hg
  have key : ∀ (E : List EntU), (blksU E).Nodup → ∀ i i' (hi : i < E.length) (hi' : i' < E.length), i < i' → E[i].lv.ownBlock = some g → E[i'].lv.ownBlock = some g → False := by
    intro E
    induction E with
    | nil => intro _ i _ hi; simp at hi
    | cons x xs ih =>
      intro hnd i i' hi hi' hlt h1 h2
      have hc : blksU (x :: xs) = x.bl ++ blksU xs := by simp [blksU]
      rw [hc] at hnd
      obtain ⟨_, n2, n3⟩ := List.nodup_append.1 hnd
      cases i' with
      | zero => omega
      | succ k' =>
        have hk' : k' < xs.length := by simpa using hi'
        simp only [List.getElem_cons_succ] at h2
        cases i with
        | zero =>
          simp only [List.getElem_cons_zero] at h1
          refine n3 g ?_ g ?_ rfl
          · simp [EntU.bl, h1]
          · exact mem_blksU.2 ⟨xs[k'], List.getElem_mem _, .inl h2⟩
        | succ k =>
          simp only [List.getElem_cons_succ] at h1
          exact ih n2 k k' (by simpa using hi) (by simpa using hi') (by omega) h1 h2
  have b1 : E[i].lv.ownBlock = some g := by rw [e]; rfl
  have b2 : E[i'].lv.ownBlock = some g := by rw [e']; rfl
  rcases Nat.lt_or_gt_of_ne hne with hlt | hlt
  · exact key E h i i' hi hi' hlt b1 b2
  · exact key E h i' i hi' hi hlt b2 b1
theorem bkU_apart {w : World} {base kb : Nat} {lv wv : Value} {held : Int} {E : List EntU} (h : BkU w base kb lv wv held E) (hlen : E.length ≤ 4000) :
    Calls Try.prog 8 #[.pointer (some ⟨kb, 0, none⟩), .func (.func 9) #[] #[]] w fun e w' => e = .returned (.bool true) ∧ Keeps (fun k => k = kb ∨ ∃ e ∈ E, e.lv.ownBlock = some k) w w' :=
  apartU_any h.bw h.ents hlen (disU_of h.nodup) (enters_of Try.func9 (by kernel_rfl) rfl) (fun i j w hi hj => markU_any i j w hi hj)
end Go.Proofs.Ytgjamnhepbblhaa
/- Roomy, Intact of leaves (written by parts/gen_pb.py off LnRl). Own work. -/
namespace Go.Proofs.Ytgjamnhepbblhaa
open Go.RowKit Wk
set_option linter.unusedVariables false
section
variable {P : Program}
/-- copy of things of several cells -/
theorem run_copyS (w : World) (dT sT ty elem : TypeId) (s g o dLen dCap : Nat) (a : Addr) (sLen sCap : Nat) (cur : Array Value) (t : TypeId) (cs : List Value)
    (hu : P.underlying dT = some (.slice elem)) (hs : (P.info? elem).map (·.size) = some s)
    (hg : w.heap[g]? = some (.cells cur t (0, 0))) (hn : cs.length = Nat.min sLen dLen * s)
    (hsrc : ∀ j v, cs[j]? = some v → w.cell? (a.add j) = some v) (hfit : o + cs.length ≤ cur.size) (h1 : ∀ v ∈ cs, v.oneCell' = true) :
    (Builtin.copy_ #[dT, sT] ty #[.slice (some ⟨g, o, none⟩) dLen dCap, .slice (some a) sLen sCap]).run P w =
      .ok (goInt (Nat.min sLen dLen)) (w.setRow g (cur.toList.take o ++ cs ++ cur.toList.drop (o + cs.length)).toArray) := by
  have hl := run_loadCells_list (P := P) w a cs hsrc
  have hst := run_storeCells_at P g o t cs 0 cur w hg (by simpa using hfit) h1
  cases hq : P.info? elem with
  | none => simp [hq] at hs
  | some i =>
    have hi : i.size = s := by simpa [hq] using hs
    simp [Builtin.copy_, run_underlying hu, Builtin.lenOf, Builtin.firstCells, sizeOf, typeInfo, hq, hi, ← hn, hl, hst]
theorem run_copyN (w : World) (dT sT ty elem : TypeId) (a : Addr) (dLen dCap c : Nat) (hu : P.underlying dT = some (.slice elem)) (hs : ((P.info? elem).map (·.size)).isSome = true) :
    (Builtin.copy_ #[dT, sT] ty #[.slice (some a) dLen dCap, .slice none 0 c]).run P w = .ok (goInt 0) w := by
  cases hq : P.info? elem with
  | none => simp [hq] at hs
  | some i => simp [Builtin.copy_, run_underlying hu, Builtin.lenOf, Builtin.firstCells, sizeOf, typeInfo, hq, storeCells]
end
theorem encLs_one (xs : List L6) : ∀ u ∈ encLs xs, u.oneCell' = true := by
  intro u hu
  obtain ⟨x, _, hx⟩ := List.mem_flatMap.1 hu
  exact encL_one x u hx
def mk6 : L6 := ⟨0, 0, -7, false, false, false⟩
def z6 : L6 := ⟨0, 0, 0, false, false, false⟩
/-- a row of leaves, known whole -/
def Row6 (w : World) (g : Nat) (L : List L6) : Prop := w.heap[g]? = some (.cells (encLs L).toArray 34 (0, 0))
theorem Row6.lt {w : World} {g : Nat} {L : List L6} (h : Row6 w g L) : g < w.heap.size := (Array.getElem?_eq_some_iff.1 h).1
theorem Row6.cell {w : World} {g : Nat} {L : List L6} (h : Row6 w g L) (j i : Nat) (hj : j < L.length) (hi : i < 6) : w.cell? ⟨g, j * 6 + i, none⟩ = (encL L[j])[i]? := by
  rw [cell_of_row _ _ _ _ _ _ h]
  rw [show ((encLs L).toArray[j * 6 + i]?) = (encLs L)[j * 6 + i]? by simp]
  exact encLs_get L j i hj hi
theorem Row6.below {w w' : World} {g : Nat} {L : List L6} (h : Row6 w g L) (hb : Below w.heap.size w w') : Row6 w' g L := (hb.block g h.lt).trans h
theorem Row6.rd {w : World} {g n c : Nat} {L : List L6} (h : Row6 w g L) (hn : n ≤ L.length) (hc : n ≤ c) (hm : c ≤ maxLen) (hx : ∀ x ∈ L.take n, L6.ok x) : Lv w (.slice (some ⟨g, 0, none⟩) n c) (L.take n) := by
  have hl : (L.take n).length = n := by rw [List.length_take]; omega
  refine ⟨some ⟨g, 0, none⟩, c, by rw [hl], by rw [hl]; exact hc, hm, hx, fun i hi => ⟨g, 0, rfl, ?_, ?_, ?_, ?_, ?_, ?_⟩⟩
  · have := h.cell i 0 (by omega) (by omega)
    rw [Nat.zero_add, List.getElem_take]
    exact this
  · have := h.cell i 1 (by omega) (by omega)
    rw [Nat.zero_add, List.getElem_take]
    exact this
  · have := h.cell i 2 (by omega) (by omega)
    rw [Nat.zero_add, List.getElem_take]
    exact this
  · have := h.cell i 3 (by omega) (by omega)
    rw [Nat.zero_add, List.getElem_take]
    exact this
  · have := h.cell i 4 (by omega) (by omega)
    rw [Nat.zero_add, List.getElem_take]
    exact this
  · have := h.cell i 5 (by omega) (by omega)
    rw [Nat.zero_add, List.getElem_take]
    exact this

/-- the copy of leaves into a row that is known -/
theorem wpList_copy6 {w : World} {ops : Array Oper} {rest : List Oper} {o : Oper} {a : Act} {Q : Exit → Act → World → Prop} (hgd : o.guard = none) (d s : Operand)
    (ho : o.op = .call { callee := .builtin .copy, args := #[d, s], argTypes := #[22, 22] }) {g dCap m : Nat} {v : Value} {xs : List L6} (hd : a.eval d = .slice (some ⟨g, 0, none⟩) (xs.length + m) dCap) (hs : a.eval s = v) (hr : Row6 w g (List.replicate (xs.length + m) z6)) (hv : Lv w v xs)
    (h : ∀ w', Hid (Row6 w' g (xs ++ List.replicate m z6)) → Hid (Keeps (fun k => k = g) w w') → wpList Try.prog ops Q rest (a.put o.dst (goInt xs.length)) w') : wpList Try.prog ops Q (o :: rest) a w := by
  obtain ⟨i, hi, hz0, hz1, hz2⟩ := info_parts info_leaf
  have hsz : (Try.prog.info? 34).map (·.size) = some 6 := by rw [hi, Option.map_some, hz1]
  obtain ⟨ao, cap, rfl, h1, h2, h3, h4⟩ := hv
  refine wpList_plain hgd fun K hK => ?_
  by_cases hp : 0 < xs.length
  · obtain ⟨b, of, rfl, _⟩ := h4 0 hp
    have hrun := run_copyS (P := Try.prog) w 22 22 o.type 34 6 g 0 (xs.length + m) dCap ⟨b, of, none⟩ xs.length cap (encLs (List.replicate (xs.length + m) z6)).toArray 34 (encLs xs) Try.underlying22 hsz hr (by rw [encLs_length, show Nat.min xs.length (xs.length + m) = xs.length from Nat.min_eq_left (by omega)]) (fun j u hj => by
      have hjl : j < xs.length * 6 := by have := (List.getElem?_eq_some_iff.1 hj).1; rw [encLs_length] at this; exact this
      obtain ⟨b', o', e, c0, c1, c2, c3, c4, c5⟩ := h4 (j / 6) (by omega)
      cases e
      rw [Addr.add_lit]
      have hj2 : j = j / 6 * 6 + j % 6 := by omega
      rw [hj2, encLs_get xs (j / 6) (j % 6) (by omega) (by omega)] at hj
      rcases (by omega : j % 6 = 0 ∨ j % 6 = 1 ∨ j % 6 = 2 ∨ j % 6 = 3 ∨ j % 6 = 4 ∨ j % 6 = 5) with e | e | e | e | e | e
      · rw [e] at hj
        rw [hj2, e, Nat.add_zero, c0]
        exact hj
      · rw [e] at hj
        rw [hj2, e, ← Nat.add_assoc, c1]
        exact hj
      · rw [e] at hj
        rw [hj2, e, ← Nat.add_assoc, c2]
        exact hj
      · rw [e] at hj
        rw [hj2, e, ← Nat.add_assoc, c3]
        exact hj
      · rw [e] at hj
        rw [hj2, e, ← Nat.add_assoc, c4]
        exact hj
      · rw [e] at hj
        rw [hj2, e, ← Nat.add_assoc, c5]
        exact hj) (by simp [encLs_length]; omega) (encLs_one xs)
    rw [show Nat.min xs.length (xs.length + m) = xs.length from Nat.min_eq_left (by omega)] at hrun
    unfold Oper.wp
    simp only [execOp, ho, resolve, invoke, builtin, Sem.run_bind, Sem.run_pure, List.map_toArray, List.map_cons, List.map_nil, hd, hs, hrun, Result.andThen_ok]
    refine hK _ _ (h _ ?_ ⟨rfl, rfl, rfl, by simp [World.setRow], fun k _ hk => setRow_other w g k _ hk⟩)
    have e : (encLs (List.replicate (xs.length + m) z6)).toArray.toList.take 0 ++ encLs xs ++ (encLs (List.replicate (xs.length + m) z6)).toArray.toList.drop (0 + (encLs xs).length) = encLs (xs ++ List.replicate m z6) := by
      rw [← List.replicate_append_replicate, encLs_append, encLs_append]
      simp only [List.take_zero, List.nil_append, Nat.zero_add]
      rw [List.drop_append_of_le_length (by rw [encLs_length, encLs_length, List.length_replicate]; exact Nat.le_refl _), List.drop_of_length_le (by rw [encLs_length, encLs_length, List.length_replicate]; exact Nat.le_refl _), List.nil_append]
    show _ = _
    rw [e]
    exact setRow_heap w g _ _ _ _ hr
  · obtain rfl : xs = [] := List.eq_nil_of_length_eq_zero (by omega)
    have hr' : Row6 w g (List.replicate m z6) := by
      have := hr
      rw [List.length_nil, Nat.zero_add] at this
      exact this
    have hrun : (Builtin.copy_ #[22, 22] o.type #[.slice (some ⟨g, 0, none⟩) (([] : List L6).length + m) dCap, .slice ao ([] : List L6).length cap]).run Try.prog w = .ok (goInt 0) w := by
      cases ao with
      | none => exact run_copyN w _ _ _ 34 _ _ _ _ Try.underlying22 (by rw [hsz]; rfl)
      | some ad =>
        have := run_copyS (P := Try.prog) w 22 22 o.type 34 6 g 0 (([] : List L6).length + m) dCap ad 0 cap (encLs (List.replicate m z6)).toArray 34 [] Try.underlying22 hsz hr' (by simp) (fun j u hj => by simp at hj) (by simp) (fun _ h => by cases h)
        rw [show Nat.min 0 (([] : List L6).length + m) = 0 from Nat.zero_min _] at this
        have e : ((encLs (List.replicate m z6)).toArray.toList.take 0 ++ [] ++ (encLs (List.replicate m z6)).toArray.toList.drop (0 + ([] : List Value).length)).toArray = (encLs (List.replicate m z6)).toArray := by simp
        rw [e, setRow_self w g _ _ _ hr'] at this
        exact this
    unfold Oper.wp
    simp only [execOp, ho, resolve, invoke, builtin, Sem.run_bind, Sem.run_pure, List.map_toArray, List.map_cons, List.map_nil, hd, hs, hrun, Result.andThen_ok]
    exact hK _ _ (h w (by rw [List.nil_append]; exact hr') (Keeps.refl _ _))
/-- a leaf is written -/
def put6 (w : World) (g o : Nat) (x : L6) : World := ((((((w.setCell ⟨g, o, none⟩ (.int .u64 (x.v : Int))).setCell ⟨g, o + 1, none⟩ (.int .u64 (x.p : Int))).setCell ⟨g, o + 2, none⟩ (.int .i64 x.n)).setCell ⟨g, o + 3, none⟩ (.bool x.big)).setCell ⟨g, o + 4, none⟩ (.bool x.wr)).setCell ⟨g, o + 5, none⟩ (.bool x.ex))
theorem put6_keeps (w : World) (g o : Nat) (x : L6) : Keeps (fun k => k = g) w (put6 w g o x) := by
  unfold put6
  exact (((((Keeps.setCell _ _ _ _).trans (Keeps.setCell _ _ _ _) (fun _ _ e => e)).trans (Keeps.setCell _ _ _ _) (fun _ _ e => e)).trans (Keeps.setCell _ _ _ _) (fun _ _ e => e)).trans (Keeps.setCell _ _ _ _) (fun _ _ e => e)).trans (Keeps.setCell _ _ _ _) (fun _ _ e => e)
theorem Row6.set {w : World} {g : Nat} {L : List L6} (h : Row6 w g L) (j : Nat) (hj : j < L.length) (x : L6) : Row6 ((((((w.setCell ⟨g, j * 6, none⟩ (.int .u64 (x.v : Int))).setCell ⟨g, j * 6 + 1, none⟩ (.int .u64 (x.p : Int))).setCell ⟨g, j * 6 + 2, none⟩ (.int .i64 x.n)).setCell ⟨g, j * 6 + 3, none⟩ (.bool x.big)).setCell ⟨g, j * 6 + 4, none⟩ (.bool x.wr)).setCell ⟨g, j * 6 + 5, none⟩ (.bool x.ex)) g (L.set j x) := by
  have h0 : w.heap[g]? = some (.cells (encLs L).toArray 34 (0, 0)) := h
  have e : encLs (L.set j x) = (((((((encLs L).set (j * 6) (.int .u64 (x.v : Int))).set (j * 6 + 1) (.int .u64 (x.p : Int))).set (j * 6 + 2) (.int .i64 x.n)).set (j * 6 + 3) (.bool x.big)).set (j * 6 + 4) (.bool x.wr)).set (j * 6 + 5) (.bool x.ex)) := by
    clear h h0
    induction L generalizing j with
    | nil => simp at hj
    | cons y ys ih =>
      cases j with
      | zero => rfl
      | succ j =>
        have := ih j (by simpa using hj)
        rw [List.set_cons_succ, show encLs (y :: ys.set j x) = encL y ++ encLs (ys.set j x) from rfl, this, show encLs (y :: ys) = encL y ++ encLs ys from rfl]
        rw [List.set_append_right _ _ (by simp [encL]; omega), show (j + 1) * 6 - (encL y).length = j * 6 by simp [encL]; omega, List.set_append_right _ _ (by simp [encL]; omega), show (j + 1) * 6 + 1 - (encL y).length = j * 6 + 1 by simp [encL]; omega, List.set_append_right _ _ (by simp [encL]; omega), show (j + 1) * 6 + 2 - (encL y).length = j * 6 + 2 by simp [encL]; omega, List.set_append_right _ _ (by simp [encL]; omega), show (j + 1) * 6 + 3 - (encL y).length = j * 6 + 3 by simp [encL]; omega, List.set_append_right _ _ (by simp [encL]; omega), show (j + 1) * 6 + 4 - (encL y).length = j * 6 + 4 by simp [encL]; omega, List.set_append_right _ _ (by simp [encL]; omega), show (j + 1) * 6 + 5 - (encL y).length = j * 6 + 5 by simp [encL]; omega]
  unfold Row6
  rw [e]
  simp [World.setCell, Array.getElem?_modify, h0]
/-- a row with 80 more places, of which k bear the mark -/
def fill6 (p : List L6) (k : Nat) : List L6 := p ++ (List.replicate k mk6 ++ List.replicate (80 - k) z6)
def room6 (p : List L6) : List L6 := p ++ List.replicate 80 mk6
theorem fill6_len (p : List L6) (k : Nat) (hk : k ≤ 80) : (fill6 p k).length = p.length + 80 := by simp [fill6]; omega
theorem room6_len (p : List L6) : (room6 p).length = p.length + 80 := by rw [room6, List.length_append, List.length_replicate]
theorem fill6_set (p : List L6) (k : Nat) (hk : k < 80) : (fill6 p k).set (p.length + k) mk6 = fill6 p (k + 1) := by
  unfold fill6
  rw [List.set_append_right _ _ (by omega), Nat.add_sub_cancel_left, List.set_append_right _ _ (by simp), List.length_replicate, Nat.sub_self, show 80 - k = (80 - (k + 1)) + 1 by omega, List.replicate_succ, List.set_cons_zero, List.replicate_succ', List.append_assoc]
  rfl
theorem fill6_end (p : List L6) : fill6 p 80 = room6 p := by simp only [fill6, room6, Nat.sub_self, List.replicate_zero, List.append_nil]
theorem made6 {w : World} {base g n : Nat} (h : w.ownsRow base 34 6 (.slice (some ⟨g, 0, none⟩) n n) n (madeCells #[Value.int .u64 0, .int .u64 0, .int .i64 0, .bool false, .bool false, .bool false] (n * 6)).toList) : Row6 w g (List.replicate n z6) := by
  rcases h.2 with ⟨hc, _⟩ | ⟨g', cap, cur, hv, _, hg, _, _, hs, ht⟩
  · cases hc
  · cases hv
    unfold Row6
    rw [hg]
    have e : cur.toList = encLs (List.replicate n z6) := by
      rw [List.take_of_length_le (by simp [hs])] at ht
      rw [ht]
      apply List.ext_getElem?
      intro j
      by_cases hj : j < n * 6
      · rw [show j = j / 6 * 6 + j % 6 by omega, encLs_get _ (j / 6) (j % 6) (by rw [List.length_replicate]; omega) (by omega), List.getElem_replicate]
        rw [Array.getElem?_toList]
        have hj' : j / 6 * 6 + j % 6 < (madeCells #[Value.int .u64 0, .int .u64 0, .int .i64 0, .bool false, .bool false, .bool false] (n * 6)).size := by rw [size_madeCells]; omega
        rw [Array.getElem?_eq_getElem hj']
        have hg : (madeCells #[Value.int .u64 0, .int .u64 0, .int .i64 0, .bool false, .bool false, .bool false] (n * 6))[j / 6 * 6 + j % 6] = (#[Value.int .u64 0, .int .u64 0, .int .i64 0, .bool false, .bool false, .bool false] : Array Value)[(j / 6 * 6 + j % 6) % 6]! := by
          simp only [madeCells, Array.getElem_map, Array.getElem_range]
          rfl
        rw [hg, show (j / 6 * 6 + j % 6) % 6 = j % 6 by omega]
        rcases (by omega : j % 6 = 0 ∨ j % 6 = 1 ∨ j % 6 = 2 ∨ j % 6 = 3 ∨ j % 6 = 4 ∨ j % 6 = 5) with e | e | e | e | e | e <;> rw [e] <;> rfl
      · rw [List.getElem?_eq_none (by rw [Array.length_toList, size_madeCells]; omega), List.getElem?_eq_none (by rw [encLs_length, List.length_replicate]; omega)]
    rw [← e]
set_option maxRecDepth 100000 in
set_option maxHeartbeats 4000000 in
theorem roomyL_any {v : Value} {p : List L6} {w : World} (hv : Lv w v p) (hp : p.length ≤ 1048576) :
    Calls Try.prog 12 #[v, .agg #[.int .u64 0, .int .u64 0, .int .i64 (-7), .bool false, .bool false, .bool false]] w fun e w' => ∃ g, w.heap.size ≤ g ∧ e = .returned (.slice (some ⟨g, 0, none⟩) (p.length + 80) (p.length + 80)) ∧ Row6 w' g (room6 p) ∧ Below w.heap.size w w' := by
  obtain ⟨i, hi, hz0, hz1, hz2⟩ := info_parts info_leaf
  have HV := Lib.hid hv
  obtain ⟨ao, cap, rfl, h1, h2, _⟩ := hv
  unfold maxLen at h2
  go_enter Try.func12, Try.ntmps12
  go_wp2_with (at_make; refine wpList_make_full _ rfl _ _ 22 rfl w.heap.size 34 i (.agg #[.int .u64 0, .int .u64 0, .int .i64 0, .bool false, .bool false, .bool false]) 6 Try.underlying22 hi hz0 hz1 _ _ _ _ (p.length + 80) rfl rfl (by omega) (by omega) (by rw [hz2]; omega) (by simp only [maxLen]; omega) (by simp) ?_)
  intro w1 hown hgrow
  have hb1 : Below w.heap.size w w1 := ((Below.refl _ _).alloc (Nat.le_refl _) _).grown hgrow (by simp) (by simp)
  have hmk : w1.heap[w.heap.size]? = some (.cells #[.int .u64 0, .int .u64 0, .int .i64 (-7), .bool false, .bool false, .bool false] 34 (0, 0)) := (hgrow.block w.heap.size (by simp) (by simp)).trans (Array.getElem?_push_size (xs := w.heap))
  have hr1 : Row6 w1 (w.heap.size + 1) (List.replicate (p.length + 80) z6) := made6 hown
  have HR1 := Lib.hid hr1
  have HMk := Lib.hid hmk
  have HV1 := Lib.hid (HV.out.below hb1)
  have HB1 := Lib.hid hb1
  clear hown hgrow hr1 hmk hb1 hi hz0 hz1 hz2
  go_wp2_with (refine wpList_copy6 rfl (.tmp 11) (.tmp 12) rfl (m := 80) rfl rfl HR1.out HV1.out ?_)
  intro w2 HR2 HK2
  have HB2 : Hid (Below w.heap.size w w2) := HB1.out.trans (HK2.out.below HB1.out.size (fun k _ e => by omega))
  have HM2 : Hid (w2.heap[w.heap.size]? = some (.cells #[.int .u64 0, .int .u64 0, .int .i64 (-7), .bool false, .bool false, .bool false] 34 (0, 0))) := (HK2.out.block w.heap.size (Array.getElem?_eq_some_iff.1 HMk.out).1 (by omega)).trans HMk.out
  have HF2 : Hid (Row6 w2 (w.heap.size + 1) (fill6 p 0)) := HR2.out
  clear HR2 HK2 HR1 HMk HV1 HB1
  go_wp2_with fail
  go_loopw [6] (fun iv wr => ∃ k : Nat, k ≤ 80 ∧ iv = .int .i64 ((p.length + k : Nat) : Int) ∧ Hid (Row6 wr (w.heap.size + 1) (fill6 p k)) ∧ Hid (wr.heap[w.heap.size]? = some (.cells #[.int .u64 0, .int .u64 0, .int .i64 (-7), .bool false, .bool false, .bool false] 34 (0, 0))) ∧ Hid (Below w.heap.size w wr)) (fun iv _ => p.length + 80 - (intOf iv).toNat)
  case atStart => exact ⟨0, by omega, rfl, HF2, HM2, HB2⟩
  case round =>
    clear HF2 HM2 HB2
    obtain ⟨k, hk, rfl, HF, HM, HB⟩ := hrel
    by_cases hlt : k < 80
    · have hl := fill6_len p k hk
      obtain ⟨j, hj⟩ : ∃ j, p.length + k = j := ⟨_, rfl⟩
      have c0 := HF.out.cell j 0 (by omega) (by omega)
      have c1 := HF.out.cell j 1 (by omega) (by omega)
      have c2 := HF.out.cell j 2 (by omega) (by omega)
      have c3 := HF.out.cell j 3 (by omega) (by omega)
      have c4 := HF.out.cell j 4 (by omega) (by omega)
      have c5 := HF.out.cell j 5 (by omega) (by omega)
      simp only [encL, List.getElem?_cons_zero, List.getElem?_cons_succ, Nat.add_zero] at c0 c1 c2 c3 c4 c5
      have f0 : wr.frozen? ⟨w.heap.size + 1, j * 6, none⟩ = false := by simp [World.frozen?, show wr.heap[w.heap.size + 1]? = _ from HF.out]
      have f1 : wr.frozen? ⟨w.heap.size + 1, j * 6 + 1, none⟩ = false := by simp [World.frozen?, show wr.heap[w.heap.size + 1]? = _ from HF.out]
      have f2 : wr.frozen? ⟨w.heap.size + 1, j * 6 + 2, none⟩ = false := by simp [World.frozen?, show wr.heap[w.heap.size + 1]? = _ from HF.out]
      have f3 : wr.frozen? ⟨w.heap.size + 1, j * 6 + 3, none⟩ = false := by simp [World.frozen?, show wr.heap[w.heap.size + 1]? = _ from HF.out]
      have f4 : wr.frozen? ⟨w.heap.size + 1, j * 6 + 4, none⟩ = false := by simp [World.frozen?, show wr.heap[w.heap.size + 1]? = _ from HF.out]
      have f5 : wr.frozen? ⟨w.heap.size + 1, j * 6 + 5, none⟩ = false := by simp [World.frozen?, show wr.heap[w.heap.size + 1]? = _ from HF.out]
      have m0 : wr.cell? ⟨w.heap.size, 0, none⟩ = some (.int .u64 0) := by rw [cell_of_row _ _ _ _ _ _ HM.out]; rfl
      have m1 : wr.cell? ⟨w.heap.size, 1, none⟩ = some (.int .u64 0) := by rw [cell_of_row _ _ _ _ _ _ HM.out]; rfl
      have m2 : wr.cell? ⟨w.heap.size, 2, none⟩ = some (.int .i64 (-7)) := by rw [cell_of_row _ _ _ _ _ _ HM.out]; rfl
      have m3 : wr.cell? ⟨w.heap.size, 3, none⟩ = some (.bool false) := by rw [cell_of_row _ _ _ _ _ _ HM.out]; rfl
      have m4 : wr.cell? ⟨w.heap.size, 4, none⟩ = some (.bool false) := by rw [cell_of_row _ _ _ _ _ _ HM.out]; rfl
      have m5 : wr.cell? ⟨w.heap.size, 5, none⟩ = some (.bool false) := by rw [cell_of_row _ _ _ _ _ _ HM.out]; rfl
      have HS := Lib.hid (HF.out.set j (by omega) mk6)
      have HM6 : Hid ((put6 wr (w.heap.size + 1) (j * 6) mk6).heap[w.heap.size]? = some (.cells #[.int .u64 0, .int .u64 0, .int .i64 (-7), .bool false, .bool false, .bool false] 34 (0, 0))) := ((put6_keeps wr (w.heap.size + 1) (j * 6) mk6).block w.heap.size (Array.getElem?_eq_some_iff.1 HM.out).1 (by omega)).trans HM.out
      have HB6 : Hid (Below w.heap.size w (put6 wr (w.heap.size + 1) (j * 6) mk6)) := HB.out.trans ((put6_keeps wr (w.heap.size + 1) (j * 6) mk6).below HB.out.size (fun k _ e => by omega))
      have HSe : Hid ((fill6 p k).set j mk6 = fill6 p (k + 1)) := by
        show _ = _
        rw [← hj]
        exact fill6_set p k hlt
      have ji : (j : Int) < (p.length : Int) + 80 := by omega
      have jn : j < p.length + 80 := by omega
      have hw1 : IntKind.i64.wrap ((j : Int) + 1) = ((j + 1 : Nat) : Int) := by rw [IntKind.wrap_i64]; omega
      have HJ : Hid (p.length + k = j) := hj
      rw [hj]
      generalize (fill6 p k)[j]'(by omega) = y at *
      clear hj hl
      go_wp2_with fail
      go_roundw
      case rel =>
        refine ⟨k + 1, by omega, congrArg (fun z : Nat => Value.int .i64 (z : Int)) (show j + 1 = p.length + (k + 1) by have := HJ.out; omega), ?_, ?_, HB6.out⟩
        · have h := HS.out
          rw [HSe.out] at h
          exact h
        · exact HM6.out
      case measure => simp [intOf]; omega
    · obtain rfl : k = 80 := by omega
      go_wp2_with fail
      go_ret
      refine ⟨w.heap.size + 1, by omega, rfl, ?_, HB.out⟩
      have h := HF.out
      rw [fill6_end] at h
      exact h
theorem step_neq_lf {w : World} {ops : Array Oper} {o : Oper} {a : Act} {K : Act → World → Prop} {Q : Exit → Act → World → Prop} {E : Prop} (z : L6) (hw : Region.wanted o (yielded ops a.tmps) = true) (x y : Operand) {t' : TypeId} (ho : o.op = .binOp .neq 34 x y t')
    (hx : a.eval x = V6 z) (hy : a.eval y = V6 z) (h : K (a.put o.dst (.bool false)) w) : if Region.wanted o (yielded ops a.tmps) = true then Oper.wp Try.prog o a w K Q else E := by
  rw [if_pos hw]
  unfold Oper.wp execOp
  have hg : (eqGuard .neq 34 x y (V6 z) (V6 z)).run Try.prog w = .ok () w := run_eqGuard_agg w _ _ _ _ _ _ guard_leaf
  simp only [ho, hx, hy, Sem.run_bind, Sem.run_pure, Result.andThen_ok, hg, leaf_neq]
  exact h
set_option maxRecDepth 100000 in
set_option maxHeartbeats 4000000 in
theorem intactL_any {v : Value} {p : List L6} {w : World} {g : Nat} (hr : Row6 w g (room6 p)) (hv : Lv w v p) (hp : p.length ≤ 1048576) :
    Calls Try.prog 21 #[.slice (some ⟨g, 0, none⟩) (p.length + 80) (p.length + 80), v, .agg #[.int .u64 0, .int .u64 0, .int .i64 (-7), .bool false, .bool false, .bool false]] w fun e w' => e = .returned (.bool true) ∧ Below w.heap.size w w' := by
  have HV := Lib.hid hv
  have HRw := Lib.hid hr
  have hb3 := hv
  obtain ⟨ao, cap, rfl, h1, h2, h3, _⟩ := hb3
  unfold maxLen at h2
  have HP := Lib.hid (fun W (h : Row6 W g (room6 p)) => by
    have := h.rd (n := p.length) (c := p.length + 80) (by rw [room6_len]; omega) (by omega) (by unfold maxLen; omega) (by rw [room6, List.take_left]; exact h3)
    rw [room6, List.take_left] at this
    exact this)
  have HB0 : Hid (Below w.heap.size w (w.alloc (.cells #[.int .u64 0, .int .u64 0, .int .i64 (-7), .bool false, .bool false, .bool false] 34))) := (Below.refl _ _).alloc (Nat.le_refl _) _
  have HM0 : Hid ((w.alloc (.cells #[.int .u64 0, .int .u64 0, .int .i64 (-7), .bool false, .bool false, .bool false] 34)).heap[w.heap.size]? = some (.cells #[.int .u64 0, .int .u64 0, .int .i64 (-7), .bool false, .bool false, .bool false] 34 (0, 0))) := Array.getElem?_push_size (xs := w.heap)
  have HS := Lib.hid (sameL_yes (HP.out _ (HRw.out.below HB0.out)) (HV.out.below HB0.out))
  clear hr hv h3
  go_enter Try.func21, Try.ntmps21
  go_wp2_with fail
  refine HS.out.mono ?_
  rintro e w1 ⟨rfl, hb1⟩
  have HB1 : Hid (Below w.heap.size w w1) := HB0.out.trans (hb1.mono HB0.out.size)
  have HM1 : Hid (w1.heap[w.heap.size]? = some (.cells #[.int .u64 0, .int .u64 0, .int .i64 (-7), .bool false, .bool false, .bool false] 34 (0, 0))) := (hb1.block w.heap.size (Array.getElem?_eq_some_iff.1 HM0.out).1).trans HM0.out
  clear hb1 HS HB0 HM0
  go_wp2_with fail
  go_loopw [7] (fun iv wr => ∃ j : Nat, p.length ≤ j ∧ j ≤ p.length + 80 ∧ iv = .int .i64 (j : Int) ∧ Hid (wr.heap[w.heap.size]? = some (.cells #[.int .u64 0, .int .u64 0, .int .i64 (-7), .bool false, .bool false, .bool false] 34 (0, 0))) ∧ Hid (Below w.heap.size w wr)) (fun iv _ => p.length + 80 - (intOf iv).toNat)
  case atStart => exact ⟨p.length, by omega, by omega, rfl, HM1, HB1⟩
  case round =>
    clear HM1 HB1
    obtain ⟨j, hj0, hj1, rfl, HM, HB⟩ := hrel
    by_cases hlt : j < p.length + 80
    · have hrr := HRw.out.below HB.out
      have hg : (room6 p)[j]'(by rw [room6_len]; omega) = mk6 := by
        unfold room6
        rw [List.getElem_append_right (by omega), List.getElem_replicate]
      have c0 := hrr.cell j 0 (by rw [room6_len]; omega) (by omega)
      have c1 := hrr.cell j 1 (by rw [room6_len]; omega) (by omega)
      have c2 := hrr.cell j 2 (by rw [room6_len]; omega) (by omega)
      have c3 := hrr.cell j 3 (by rw [room6_len]; omega) (by omega)
      have c4 := hrr.cell j 4 (by rw [room6_len]; omega) (by omega)
      have c5 := hrr.cell j 5 (by rw [room6_len]; omega) (by omega)
      rw [hg] at c0 c1 c2 c3 c4 c5
      simp only [mk6, encL, List.getElem?_cons_zero, List.getElem?_cons_succ, Nat.add_zero] at c0 c1 c2 c3 c4 c5
      have m0 : wr.cell? ⟨w.heap.size, 0, none⟩ = some (.int .u64 0) := by rw [cell_of_row _ _ _ _ _ _ HM.out]; rfl
      have m1 : wr.cell? ⟨w.heap.size, 1, none⟩ = some (.int .u64 0) := by rw [cell_of_row _ _ _ _ _ _ HM.out]; rfl
      have m2 : wr.cell? ⟨w.heap.size, 2, none⟩ = some (.int .i64 (-7)) := by rw [cell_of_row _ _ _ _ _ _ HM.out]; rfl
      have m3 : wr.cell? ⟨w.heap.size, 3, none⟩ = some (.bool false) := by rw [cell_of_row _ _ _ _ _ _ HM.out]; rfl
      have m4 : wr.cell? ⟨w.heap.size, 4, none⟩ = some (.bool false) := by rw [cell_of_row _ _ _ _ _ _ HM.out]; rfl
      have m5 : wr.cell? ⟨w.heap.size, 5, none⟩ = some (.bool false) := by rw [cell_of_row _ _ _ _ _ _ HM.out]; rfl
      have ji : (j : Int) < (p.length : Int) + 80 := by omega
      have hw1 : IntKind.i64.wrap ((j : Int) + 1) = ((j + 1 : Nat) : Int) := by rw [IntKind.wrap_i64]; omega
      clear hrr hg
      go_wp2_with fail
      go_region_law (refine step_neq_lf mk6 (by kernel_rfl) (.tmp 34) (.tmp 35) (by rfl) (by rfl) (by rfl) ?_)
      all_goals
        go_wp2_with fail
        go_roundw
        case rel => exact ⟨j + 1, by omega, by omega, rfl, HM, by repeat (first | exact HB.out | refine Below.drew ?_)⟩
        case measure => simp [intOf]; omega
    · obtain rfl : j = p.length + 80 := by omega
      go_wp2_with fail
      go_ret
      exact ⟨rfl, HB.out⟩
end Go.Proofs.Ytgjamnhepbblhaa
