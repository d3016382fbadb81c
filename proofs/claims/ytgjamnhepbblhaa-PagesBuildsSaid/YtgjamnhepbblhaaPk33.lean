import Derived.Test.YtgjamnhepbblhaaPk11
import Derived.Test.YtgjamnhepbblhaaPk32
import Derived.Test.YtgjamnhepbblhaaPk07
import Derived.Test.YtgjamnhepbblhaaPk16
/- Pages: lists of tables of any capacity that are the same. Own work. -/
namespace Go.Proofs.Ytgjamnhepbblhaa
open Go.RowKit Wk
set_option linter.unusedVariables false
/-- a list of tables that is read -/
def Tv (w : World) (v : Value) (n : Nat) (E : Nat → Nat) : Prop := ∃ ao cap, v = .slice ao n cap ∧ n ≤ cap ∧ cap ≤ maxLen ∧ ∀ k, k < n → ∃ g, ao = some ⟨g, 0, none⟩ ∧ ∀ p, p < 512 → w.cell? ⟨g, k * 512 + p, none⟩ = some (.int .u64 (E (k * 512 + p) : Int))
theorem cellsM_get (n : Nat) (E : Nat → Nat) {p : Nat} (h : p < n * 512) : (cellsM n E)[p]? = some (.int .u64 (E p : Int)) := by
  simp [cellsM, h]
theorem cellsM_len (n : Nat) (E : Nat → Nat) : (cellsM n E).length = n * 512 := by simp [cellsM]
theorem OwnTm.tv {w : World} {base : Nat} {v : Value} {n : Nat} {E : Nat → Nat} (h : OwnTm w base v n E) : Tv w v n E := by
  have h' := h
  rcases h.2 with ⟨rfl, h0⟩ | ⟨g, cap, cur, rfl, hb, hg, h1, h2, hs, ht⟩
  · exact ⟨none, 0, by rw [h0], by omega, Nat.zero_le _, fun k hk => by omega⟩
  · refine ⟨_, cap, rfl, h1, h2, fun k hk => ⟨g, rfl, fun p hp => ?_⟩⟩
    rw [World.ownsRow.cellAt h' (k * 512 + p) (by omega)]
    exact cellsM_get n E (by omega)
theorem Tv.below {w w' : World} {v : Value} {n : Nat} {E : Nat → Nat} (h : Tv w v n E) (hb : Below w.heap.size w w') : Tv w' v n E := by
  obtain ⟨ao, cap, rfl, h1, h2, h3⟩ := h
  refine ⟨ao, cap, rfl, h1, h2, fun k hk => ?_⟩
  obtain ⟨g, rfl, hc⟩ := h3 k hk
  refine ⟨g, rfl, fun p hp => ?_⟩
  have hl := World.block_lt_of_cell? w _ (hc p hp)
  exact (World.cell?_of_block (a := ⟨g, k * 512 + p, none⟩) (hb.block g hl)).trans (hc p hp)
theorem cells_load {w : World} {G k : Nat} {M : Nat → Nat} (h : ∀ p, p < 512 → w.cell? ⟨G, k * 512 + p, none⟩ = some (.int .u64 (M (k * 512 + p) : Int))) : (Instr.loadAt 40 (.pointer (some ⟨G, k * 512, none⟩))).run Try.prog w = .ok (.agg (tabV fun i => M (k * 512 + i))) w := by
  have hu : Try.prog.underlying 40 = some (.array 512 23) := by kernel_rfl
  have := run_loadAt_mid (P := Try.prog) w G (k * 512) 40 (tabV fun i => M (k * 512 + i)).toList (.array 512 23) (fun j v hv => by
    have hj : j < 512 := by have := (List.getElem?_eq_some_iff.1 hv).1; rw [Array.length_toList, tabV_size] at this; exact this
    rw [h j hj]
    rw [Array.getElem?_toList, tabV_get _ hj] at hv
    exact hv) hu rfl (by rw [Array.length_toList, tabV_size]; exact tab_zero.2)
  simpa using this
theorem GAt.own {w : World} {G n base : Nat} {M : Nat → Nat} (h : GAt w G n M) (hb : base ≤ G) (hn : n ≤ 1024) : OwnTm w base (.slice (some ⟨G, 0, none⟩) n n) n M := by
  refine ⟨cellsM_len n M, .inr ⟨G, n, cellsG n M, rfl, hb, h, Nat.le_refl _, by unfold maxLen; omega, cellsG_size n M, ?_⟩⟩
  apply List.ext_getElem?
  intro p
  by_cases hp : p < n * 512
  · rw [List.getElem?_take_of_lt hp, Array.getElem?_toList, cellsG_get n M hp, cellsM_get n M hp]
  · rw [List.getElem?_eq_none (by rw [List.length_take]; omega), List.getElem?_eq_none (by rw [cellsM_len]; omega)]
set_option maxRecDepth 100000 in
set_option maxHeartbeats 4000000 in
theorem sameTv_any {w : World} {u v : Value} {n : Nat} {M : Nat → Nat} (h : Tv w u n M) (h' : Tv w v n M) (hn : n ≤ 1024) : Calls Try.prog 19 #[u, v] w fun e w' => e = .returned (.bool true) ∧ Below w.heap.size w w' := by
  have HG := Lib.hid h
  have HG' := Lib.hid h'
  obtain ⟨ao, cap, rfl, h1, h2, _⟩ := h
  obtain ⟨ao', cap', rfl, h1', h2', _⟩ := h'
  unfold maxLen at h2 h2'
  have HB0 : Hid (Below w.heap.size w w) := Below.refl _ _
  go_enter Try.func19, Try.ntmps19
  go_wp2_with fail
  go_loopw [5] (fun iv wr => ∃ i : Nat, i ≤ n ∧ iv = .int .i64 (i : Int) ∧ Hid (Below w.heap.size w wr)) (fun iv _ => n - (intOf iv).toNat)
  case atStart => exact ⟨0, by omega, rfl, HB0⟩
  case round =>
    clear HB0
    obtain ⟨i, hi, rfl, HB⟩ := hrel
    by_cases hin : i < n
    · have ji : (i : Int) < (n : Int) := by omega
      have hw1 : IntKind.i64.wrap ((i : Int) + 1) = ((i + 1 : Nat) : Int) := by rw [IntKind.wrap_i64]; omega
      obtain ⟨_, _, e', _, _, hc⟩ := HG.out.below HB.out
      simp only [Value.slice.injEq] at e'
      obtain ⟨rfl, e9, rfl⟩ := e'
      clear e9
      obtain ⟨G, rfl, hc0⟩ := hc i hin
      obtain ⟨_, _, e', _, _, hc'⟩ := HG'.out.below HB.out
      simp only [Value.slice.injEq] at e'
      obtain ⟨rfl, e9, rfl⟩ := e'
      clear e9
      obtain ⟨G', rfl, hc1⟩ := hc' i hin
      clear hc hc'
      obtain ⟨T, hT⟩ : ∃ T, Value.agg (tabV fun j => M (i * 512 + j)) = T := ⟨_, rfl⟩
      have l1 : ∀ k, (Instr.loadAt 40 (.pointer (some ⟨G, i * 512, none⟩))).run Try.prog (wr.drewN k) = .ok T (wr.drewN k) := fun k => by
        rw [← hT]
        exact cells_load (w := wr.drewN k) hc0
      have l2 : ∀ k, (Instr.loadAt 40 (.pointer (some ⟨G', i * 512, none⟩))).run Try.prog (wr.drewN k) = .ok T (wr.drewN k) := fun k => by
        rw [← hT]
        exact cells_load (w := wr.drewN k) hc1
      have HT := Lib.hid hT.symm
      clear hT hc0 hc1
      go_upto_region 6 with fail
      refine wp_region_quiet_lit (by kernel_rfl) (by kernel_rfl) ?_
      go_big_quiet_step (fail)
      go_big_quiet_step (fail)
      go_big_quiet_step (fail)
      go_big_quiet_want
      refine quiet_load_tab (.tmp 19) rfl rfl (fun W hW => by obtain ⟨k, rfl⟩ := hW; exact l1 k) ?_
      intro a' ha'
      simp only [Act.put, List.setIfInBounds_toArray, List.set_cons_succ, List.set_cons_zero] at ha'
      subst ha'
      go_big_quiet_on
      go_big_quiet_step (fail)
      go_big_quiet_step (fail)
      go_big_quiet_step (fail)
      go_big_quiet_want
      refine quiet_load_tab (.tmp 23) rfl rfl (fun W hW => by obtain ⟨k, rfl⟩ := hW; exact l2 k) ?_
      intro a' ha'
      simp only [Act.put, List.setIfInBounds_toArray, List.set_cons_succ, List.set_cons_zero] at ha'
      subst ha'
      go_big_quiet_on
      go_big_quiet_want
      refine quiet_neq_tab (.tmp 20) (.tmp 24) rfl HT.out rfl rfl ?_
      intro a' ha'
      simp only [Act.put, List.setIfInBounds_toArray, List.set_cons_succ, List.set_cons_zero] at ha'
      subst ha'
      go_big_quiet_on
      refine wpQuiet_nil ?_
      intro W1 hw1'
      obtain ⟨nq, hw2'⟩ := hw1'
      subst hw2'
      all_goals
        have HB1 : Hid (Below w.heap.size w (wr.drewN nq)) := HB.out.trans ⟨rfl, rfl, rfl, Nat.le_refl _, fun _ _ => rfl⟩
        clear HB l1 l2
        generalize (wr.drewN nq) = W1 at *
        go_wp2_with fail
        go_roundw
        case rel => exact ⟨i + 1, by omega, rfl, HB1⟩
        case measure => simp [intOf]; omega
    · have ji : ¬ (i : Int) < (n : Int) := by omega
      go_wp2_with fail
      go_ret
      exact ⟨rfl, HB.out⟩
theorem sameTm_any {w : World} {u v : Value} {b1 b2 n : Nat} {M : Nat → Nat} (hu : OwnTm w b1 u n M) (hv : OwnTm w b2 v n M) (hn : n ≤ 1024) : Calls Try.prog 19 #[u, v] w fun e w' => e = .returned (.bool true) ∧ Below w.heap.size w w' := sameTv_any hu.tv hv.tv hn
end Go.Proofs.Ytgjamnhepbblhaa
/- Books of tables: Keep (written by parts/gen_bkt.py off BkB). Own work. -/
namespace Go.Proofs.Ytgjamnhepbblhaa
open Go.RowKit Wk
set_option linter.unusedVariables false
/-- a list of tables: how many, and what they hold -/
abbrev TM := Nat × (Nat → Nat)
def OwnU (w : World) (base : Nat) (v : Value) (x : TM) : Prop := OwnTm w base v x.1 x.2
theorem OwnU.lt {w : World} {base : Nat} {v : Value} {x : TM} (h : OwnU w base v x) : ∀ k, v.ownBlock = some k → base ≤ k ∧ k < w.heap.size := OwnTm.lt h
theorem OwnU.keeps {S : Nat → Prop} {w w' : World} {base : Nat} {v : Value} {x : TM} (h : OwnU w base v x) (hk : Keeps S w w') (hn : ∀ k, v.ownBlock = some k → ¬ S k) : OwnU w' base v x := OwnTm.keeps h hk hn
def SmU (x : TM) : Prop := x.1 ≤ 1024
theorem sameU_any {u v : Value} {xs : TM} {w : World} {b1 b2 : Nat} (hu : OwnU w b1 u xs) (hv : OwnU w b2 v xs) (hl : SmU xs) :
    Calls Try.prog 19 #[u, v] w fun e w' => e = .returned (.bool true) ∧ Below w.heap.size w w' := sameTm_any hu hv hl
structure EntU where
  lv : Value
  wv : Value
  xs : TM
def EntU.bl (x : EntU) : List Nat := x.lv.ownBlock.toList ++ x.wv.ownBlock.toList
def blksU (E : List EntU) : List Nat := E.flatMap EntU.bl
structure EntU.ok (w : World) (base : Nat) (x : EntU) : Prop where
  l : OwnU w base x.lv x.xs
  w : OwnU w base x.wv x.xs
  sm : SmU x.xs
/-- a book: its block, its two rows, what they hold -/
structure BkU (w : World) (base kb : Nat) (lv wv : Value) (held : Int) (E : List EntU) : Prop where
  blk : w.heap[kb]? = some (.cells #[lv, wv, .int .i64 held, .bool false] 27 (0, 0))
  lrow : RowV w base 48 lv (E.map EntU.lv)
  wrow : RowV w base 48 wv (E.map EntU.wv)
  ne : ∀ k, lv.ownBlock = some k → wv.ownBlock ≠ some k
  ents : ∀ x ∈ E, x.ok w base
  nodup : (blksU E).Nodup
theorem info_bsU : (Try.prog.info? 48).map (fun i => (i.zero, i.size, i.bytes)) = some (some (.slice none 0 0), 1, 24) := by kernel_rfl
theorem BkU.cells {w : World} {base kb : Nat} {lv wv : Value} {held : Int} {E : List EntU} (h : BkU w base kb lv wv held E) : w.cell? ⟨kb, 0, none⟩ = some lv ∧ w.cell? ⟨kb, 1, none⟩ = some wv ∧ w.cell? ⟨kb, 2, none⟩ = some (.int .i64 held) ∧ w.cell? ⟨kb, 3, none⟩ = some (.bool false) := by
  refine ⟨?_, ?_, ?_, ?_⟩ <;> rw [cell_of_row _ _ _ _ _ _ h.blk] <;> rfl
theorem BkU.thawed {w : World} {base kb : Nat} {lv wv : Value} {held : Int} {E : List EntU} (h : BkU w base kb lv wv held E) (i : Nat) : w.frozen? ⟨kb, i, none⟩ = false := by simp [World.frozen?, h.blk]
theorem BkU.lt {w : World} {base kb : Nat} {lv wv : Value} {held : Int} {E : List EntU} (h : BkU w base kb lv wv held E) : kb < w.heap.size := (Array.getElem?_eq_some_iff.1 h.blk).1
/-- a copy of tables -/
theorem run_copyU {w : World} {base : Nat} {l : Value} {xs : TM} (ty : TypeId) (hl : OwnU w base l xs) (hlen : SmU xs) :
    ∃ v' w', (Builtin.append_ #[48, 48] ty #[.slice none 0 0, l]).run Try.prog w = .ok v' w' ∧ OwnU w' w.heap.size v' xs ∧ w.grownBy w' none := by
  have hinfo := info_tab
  have hZs := tabV_size (fun _ => 0)
  generalize tabV (fun _ => 0) = Z at hinfo hZs
  obtain ⟨i, hi, hz0, hz1, hz2⟩ := info_parts hinfo
  obtain ⟨n, E⟩ := xs
  have hlen : n ≤ 1024 := hlen
  rcases hl.2 with ⟨rfl, h0⟩ | ⟨g, cap, cur, rfl, hb, hg, hl1, hm, hs, ht⟩
  · obtain rfl : n = 0 := h0
    refine ⟨.slice none 0 0, w, ?_, OwnTm.nil _ _ _, ⟨rfl, rfl, rfl, Nat.le_refl _, fun _ _ _ => rfl⟩⟩
    simp [Builtin.append_, run_underlying Try.underlying48, sizeOf, typeInfo, hi, Builtin.lenOf, Builtin.firstCells]
  · have hcl : (cellsM n E).length = n * 512 := by simp [cellsM]
    obtain ⟨v', w', r1, r2, r3, _⟩ := run_append_own_at (P := Try.prog) w w.heap.size 48 ty 40 i (.agg Z) 512 4096 Try.underlying48 hi hz0 hz1 hz2 hZs (by omega) (.slice none 0 0) 0 [] ⟨(by simp), .inl ⟨rfl, rfl⟩⟩ ⟨g, 0, none⟩ n cap (cellsM n E) hcl (fun j u hj => by
      have hj' : j < n * 512 := by have := (List.getElem?_eq_some_iff.1 hj).1; rw [hcl] at this; exact this
      have ht' : cur.toList.take (n * 512) = cellsM n E := ht
      rw [Addr.add_lit, Nat.zero_add, cell_of_row _ _ _ _ _ _ hg, ← Array.getElem?_toList, ← hj, ← ht', List.getElem?_take_of_lt hj']) (fun u hu => by
      obtain ⟨p, _, rfl⟩ := List.mem_map.1 hu
      rfl) (by unfold maxLen; omega) (by omega) (Nat.le_refl _)
    refine ⟨v', w', r1, ?_, r3⟩
    show World.ownsRow w' w.heap.size 40 512 v' n (cellsM n E)
    simpa using r2
/-- what a book may write -/
def KeSU (base kb : Nat) (w : World) (k : Nat) : Prop := k = kb ∨ (base ≤ k ∧ ∃ cur, w.heap[k]? = some (.cells cur 48 (0, 0)))
def KeU (base kb : Nat) (w w' : World) : Prop := Keeps (KeSU base kb w) w w'
theorem KeU.refl (base kb : Nat) (w : World) : KeU base kb w w := Keeps.refl _ _
theorem KeU.trans {base kb : Nat} {a b c : World} (h : KeU base kb a b) (k : KeU base kb b c) : KeU base kb a c := by
  refine ⟨k.os.trans h.os, k.tape.trans h.tape, k.output.trans h.output, Nat.le_trans h.size k.size, fun i hi hn => ?_⟩
  have e := h.block i hi hn
  refine (k.block i (Nat.lt_of_lt_of_le hi h.size) (fun hs => hn ?_)).trans e
  rcases hs with hs | ⟨h1, cur, h2⟩
  · exact .inl hs
  · exact .inr ⟨h1, cur, e.symm.trans h2⟩
theorem KeU.of {base kb : Nat} {w w' : World} {S : Nat → Prop} (h : Keeps S w w') (hs : ∀ k, k < w.heap.size → S k → KeSU base kb w k) : KeU base kb w w' := h.mono hs
theorem KeU.alloc (base kb : Nat) (w : World) (o : Obj) : KeU base kb w (w.alloc o) := Keeps.alloc w o
theorem KeU.set (base kb : Nat) (w : World) (i : Nat) (v : Value) : KeU base kb w (w.setCell ⟨kb, i, none⟩ v) := (Keeps.setCell w kb i v).mono (fun _ _ e => .inl e)
theorem KeU.drew {base kb : Nat} {a b : World} (h : KeU base kb a b) : KeU base kb a b.drew := Keeps.drew h
theorem KeU.grown {base kb : Nat} {w w' : World} {v : Value} {vs : List Value} (hg : w.grownBy w' v.ownBlock) (hr : RowV w base 48 v vs) : KeU base kb w w' :=
  (Keeps.of_grown hg).mono (fun k _ e => .inr ⟨(hr.lt k e).1, hr.tag k e⟩)
theorem KeU.grown0 {base kb : Nat} {w w' : World} (hg : w.grownBy w' none) : KeU base kb w w' := (Keeps.of_grown hg).mono (fun _ _ e => by cases e)
/-- the book's block and rows -/
structure BwU (w : World) (base kb : Nat) (lv wv : Value) (held : Int) (Ls Ws : List Value) : Prop where
  blk : w.heap[kb]? = some (.cells #[lv, wv, .int .i64 held, .bool false] 27 (0, 0))
  lrow : RowV w base 48 lv Ls
  wrow : RowV w base 48 wv Ws
  ne : ∀ k, lv.ownBlock = some k → wv.ownBlock ≠ some k
theorem BwU.cells {w : World} {base kb : Nat} {lv wv : Value} {held : Int} {Ls Ws : List Value} (h : BwU w base kb lv wv held Ls Ws) : w.cell? ⟨kb, 0, none⟩ = some lv ∧ w.cell? ⟨kb, 1, none⟩ = some wv ∧ w.cell? ⟨kb, 2, none⟩ = some (.int .i64 held) ∧ w.cell? ⟨kb, 3, none⟩ = some (.bool false) := by
  refine ⟨?_, ?_, ?_, ?_⟩ <;> rw [cell_of_row _ _ _ _ _ _ h.blk] <;> rfl
theorem BwU.thawed {w : World} {base kb : Nat} {lv wv : Value} {held : Int} {Ls Ws : List Value} (h : BwU w base kb lv wv held Ls Ws) (i : Nat) : w.frozen? ⟨kb, i, none⟩ = false := by simp [World.frozen?, h.blk]
theorem BwU.lt {w : World} {base kb : Nat} {lv wv : Value} {held : Int} {Ls Ws : List Value} (h : BwU w base kb lv wv held Ls Ws) : kb < w.heap.size := (Array.getElem?_eq_some_iff.1 h.blk).1
theorem BwU.kb_ne {w : World} {base kb : Nat} {lv wv : Value} {held : Int} {Ls Ws : List Value} (h : BwU w base kb lv wv held Ls Ws) : lv.ownBlock ≠ some kb ∧ wv.ownBlock ≠ some kb := by
  refine ⟨fun e => ?_, fun e => ?_⟩
  · obtain ⟨c, hc⟩ := h.lrow.tag _ e
    rw [h.blk] at hc
    simp at hc
  · obtain ⟨c, hc⟩ := h.wrow.tag _ e
    rw [h.blk] at hc
    simp at hc
theorem BwU.keeps0 {w w' : World} {base kb : Nat} {lv wv : Value} {held : Int} {Ls Ws : List Value} (h : BwU w base kb lv wv held Ls Ws) (k : Keeps (fun _ => False) w w') : BwU w' base kb lv wv held Ls Ws :=
  ⟨(k.block kb h.lt id).trans h.blk, h.lrow.keeps k (fun _ _ => id), h.wrow.keeps k (fun _ _ => id), h.ne⟩
/-- a cell of the book's is written -/
theorem BwU.put {w : World} {base kb : Nat} {lv wv lv' wv' : Value} {held held' : Int} {Ls Ws Ls' Ws' : List Value} {i : Nat} {v : Value} (h : BwU w base kb lv wv held Ls Ws) (e : #[lv', wv', .int .i64 held', .bool false] = #[lv, wv, .int .i64 held, .bool false].setIfInBounds i v) (h1 : RowV w base 48 lv' Ls') (h2 : RowV w base 48 wv' Ws') (hn : ∀ k, lv'.ownBlock = some k → wv'.ownBlock ≠ some k) (hk : lv'.ownBlock ≠ some kb ∧ wv'.ownBlock ≠ some kb) : BwU (w.setCell ⟨kb, i, none⟩ v) base kb lv' wv' held' Ls' Ws' := by
  refine ⟨?_, h1.keeps (Keeps.setCell w kb i v) (fun k hk' e => hk.1 (by subst e; exact hk')), h2.keeps (Keeps.setCell w kb i v) (fun k hk' e => hk.2 (by subst e; exact hk')), hn⟩
  rw [e]
  simp [World.setCell, Array.getElem?_modify, h.blk]
theorem OwnU.tagB {w : World} {base : Nat} {v : Value} {xs : TM} (h : OwnU w base v xs) : ∀ k, v.ownBlock = some k → ∃ cur, w.heap[k]? = some (.cells cur 40 (0, 0)) := by
  rcases h.2 with ⟨rfl, _⟩ | ⟨g, cap, cur, rfl, hb, hg, _⟩
  · intro k hk; cases hk
  · intro k hk
    cases hk
    exact ⟨cur, hg⟩
theorem OwnU.ke {w w' : World} {base base' kb : Nat} {v : Value} {xs : TM} {cs : Array Value} (h : OwnU w base' v xs) (hb : w.heap[kb]? = some (.cells cs 27 (0, 0))) (k : KeU base kb w w') : OwnU w' base' v xs :=
  h.keeps k (fun i hi hs => by
    obtain ⟨c, hc⟩ := h.tagB i hi
    rcases hs with rfl | ⟨_, d, hd⟩
    · rw [hb] at hc; simp at hc
    · rw [hd] at hc; simp at hc)
theorem step_appVU {w : World} {base : Nat} {ops : Array Oper} {o : Oper} {a : Act} {K : Act → World → Prop} {Q : Exit → Act → World → Prop} {E : Prop} (hw : Region.wanted o (yielded ops a.tmps) = true) (s x : Operand)
    (ho : o.op = .call { callee := .builtin .append, args := #[s, x], argTypes := #[25, 25] }) {v : Value} {vs : List Value} {y : Value} {g cap : Nat} (hown : RowV w base 48 v vs) (hs : a.eval s = v) (hx : a.eval x = .slice (some ⟨g, 0, none⟩) 1 cap) (hc : w.cell? ⟨g, 0, none⟩ = some y) (h1 : y.oneCell' = true) (hb : vs.length ≤ 1048576) (hbase : base ≤ w.heap.size)
    (h : ∀ va vc w', RowV w' base 48 (.slice va (vs.length + 1) vc) (vs ++ [y]) → w.grownBy w' v.ownBlock → ((Value.slice va (vs.length + 1) vc).ownBlock = v.ownBlock ∨ ∃ k, (Value.slice va (vs.length + 1) vc).ownBlock = some k ∧ w.heap.size ≤ k) → K (a.put o.dst (.slice va (vs.length + 1) vc)) w') : if Region.wanted o (yielded ops a.tmps) = true then Oper.wp Try.prog o a w K Q else E := by
  rw [if_pos hw]
  obtain ⟨v', w', hr, h2, h3, h4⟩ := run_appV o.type Try.underlying25 info_bsU hown hc h1 hb hbase (cap := cap)
  obtain ⟨va, vc, rfl⟩ := h2.form
  rw [List.length_append, List.length_singleton] at hr h2 h4
  unfold Oper.wp execOp
  simp only [ho, resolve, invoke, builtin, Sem.run_bind, Sem.run_pure, Result.andThen_ok, List.map_toArray, List.map_cons, List.map_nil, hs, hx, hr]
  exact h va vc w' h2 h3 h4
theorem wpList_appVU {w : World} {base : Nat} {ops : Array Oper} {rest : List Oper} {o : Oper} {a : Act} {Q : Exit → Act → World → Prop} (hgd : o.guard = none) (s x : Operand)
    (ho : o.op = .call { callee := .builtin .append, args := #[s, x], argTypes := #[25, 25] }) {v : Value} {vs : List Value} {y : Value} {g cap : Nat} (hown : RowV w base 48 v vs) (hs : a.eval s = v) (hx : a.eval x = .slice (some ⟨g, 0, none⟩) 1 cap) (hc : w.cell? ⟨g, 0, none⟩ = some y) (h1 : y.oneCell' = true) (hb : vs.length ≤ 1048576) (hbase : base ≤ w.heap.size)
    (h : ∀ va vc w', RowV w' base 48 (.slice va (vs.length + 1) vc) (vs ++ [y]) → w.grownBy w' v.ownBlock → ((Value.slice va (vs.length + 1) vc).ownBlock = v.ownBlock ∨ ∃ k, (Value.slice va (vs.length + 1) vc).ownBlock = some k ∧ w.heap.size ≤ k) → wpList Try.prog ops Q rest (a.put o.dst (.slice va (vs.length + 1) vc)) w') : wpList Try.prog ops Q (o :: rest) a w :=
  wpList_plain hgd fun K hK => by
    have := step_appVU (ops := ops) (w := w) (o := o) (a := a) (K := K) (Q := Q) (E := False) (cap := cap) (by simp [Region.wanted, hgd]) s x ho hown hs hx hc h1 hb hbase (fun va vc w' h2 h3 h4 => hK _ _ (h va vc w' h2 h3 h4))
    rwa [if_pos (by simp [Region.wanted, hgd])] at this
theorem step_copyU {w : World} {base : Nat} {ops : Array Oper} {o : Oper} {a : Act} {K : Act → World → Prop} {Q : Exit → Act → World → Prop} {E : Prop} (hw : Region.wanted o (yielded ops a.tmps) = true) (x : Operand)
    (ho : o.op = .call { callee := .builtin .append, args := #[.const (.slice none 0 0), x], argTypes := #[48, 48] }) {l : Value} {xs : TM} (hl : OwnU w base l xs) (hlen : SmU xs) (hx : a.eval x = l)
    (h : ∀ va vn vc w', OwnU w' w.heap.size (.slice va vn vc) xs → w.grownBy w' none → K (a.put o.dst (.slice va vn vc)) w') : if Region.wanted o (yielded ops a.tmps) = true then Oper.wp Try.prog o a w K Q else E := by
  rw [if_pos hw]
  obtain ⟨v', w', hr, h2, h3⟩ := run_copyU o.type hl hlen
  obtain ⟨va, vn, vc, rfl⟩ : ∃ va vn vc, v' = .slice va vn vc := by
    rcases h2.2 with ⟨rfl, _⟩ | ⟨g, cap, cur, rfl, _⟩
    · exact ⟨_, _, _, rfl⟩
    · exact ⟨_, _, _, rfl⟩
  have hc0 : a.eval (.const (.slice none 0 0)) = .slice none 0 0 := rfl
  unfold Oper.wp execOp
  simp only [ho, resolve, invoke, builtin, Sem.run_bind, Sem.run_pure, Result.andThen_ok, List.map_toArray, List.map_cons, List.map_nil, hc0, hx, hr]
  exact h va vn vc w' h2 h3
end Go.Proofs.Ytgjamnhepbblhaa
