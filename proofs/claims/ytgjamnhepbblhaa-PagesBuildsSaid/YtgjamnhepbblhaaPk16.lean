import Derived.Test.YtgjamnhepbblhaaPk15
import Derived.Test.YtgjamnhepbblhaaPk09
/- The marks of leaves; a book of leaves, as a law sees it (written by parts/gen_tkm.py off BkMark). Own work. -/
namespace Go.Proofs.Ytgjamnhepbblhaa
open Go.RowKit Wk Go.Shelf
set_option linter.unusedVariables false
/-- the mark of the place j of the list i -/
def markL (i j : Nat) : Int × Int := (-1000 - (i : Int), 0)
set_option maxRecDepth 100000 in
set_option maxHeartbeats 4000000 in
theorem markL_any (i j : Nat) (w : World) (_hi : i ≤ 4000) (_hj : j < maxLen) :
    Calls Try.prog 11 #[.int .i64 (i : Int), .int .i64 (j : Int)] w fun e w' => e = .returned (.agg (mkL (markL i j).1 (markL i j).2)) ∧ Keeps (fun _ => False) w w' := by
  have hw1 : IntKind.i64.wrap (-1000 - (i : Int)) = -1000 - (i : Int) := by rw [IntKind.wrap_i64]; omega
  go_enter Try.func11, Try.ntmps11
  go_wp2_with fail
  refine bodyPost_ret (v := .agg (mkL (markL i j).1 (markL i j).2)) ?_ rfl ⟨rfl, Keeps.alloc w _⟩
  have hb : (w.alloc (.cells (mkL (-1000 - (i : Int)) 0) 34)).heap[w.heap.size]? = some (.cells (mkL (-1000 - (i : Int)) 0) 34 (0, 0)) := Array.getElem?_push_size
  have d0 := cell_of_row _ _ 0 _ _ _ hb
  have d1 := cell_of_row _ _ 1 _ _ _ hb
  have d2 := cell_of_row _ _ 2 _ _ _ hb
  have d3 := cell_of_row _ _ 3 _ _ _ hb
  have d4 := cell_of_row _ _ 4 _ _ _ hb
  have d5 := cell_of_row _ _ 5 _ _ _ hb
  simp only [mkL, List.getElem?_toArray, List.getElem?_cons_zero, List.getElem?_cons_succ] at d0 d1 d2 d3 d4 d5
  simp [results, Try.results11, go_sem, markL, mkL, d0, d1, d2, d3, d4, d5]
theorem mem_blksL {E : List EntL} {k : Nat} : k ∈ blksL E ↔ ∃ x ∈ E, x.lv.ownBlock = some k ∨ x.wv.ownBlock = some k := by
  simp [blksL, EntL.bl, List.mem_flatMap, Option.mem_toList]
theorem BkL.bw {w : World} {base kb : Nat} {lv wv : Value} {held : Int} {E : List EntL} (h : BkL w base kb lv wv held E) : BwL w base kb lv wv held (E.map EntL.lv) (E.map EntL.wv) := ⟨h.blk, h.lrow, h.wrow, h.ne⟩
theorem blksL_lt {w : World} {base : Nat} {E : List EntL} (he : ∀ x ∈ E, x.ok w base) : ∀ k ∈ blksL E, k < w.heap.size := fun k hk => by
  obtain ⟨x, hx, h | h⟩ := mem_blksL.1 hk
  · exact ((he x hx).l.lt k h).2
  · exact ((he x hx).w.lt k h).2
theorem bkL_new {w : World} {base kb : Nat} (h : w.heap[kb]? = some (.cells #[.slice none 0 0, .slice none 0 0, .int .i64 0, .bool false] 31 (0, 0))) : BkL w base kb (.slice none 0 0) (.slice none 0 0) 0 [] :=
  ⟨h, RowV.nil _ _ _, RowV.nil _ _ _, fun _ e => (by cases e), fun _ h => (by cases h), List.nodup_nil⟩
theorem blksL_append (E F : List EntL) : blksL (E ++ F) = blksL E ++ blksL F := by simp [blksL]
theorem bkL_keep {w : World} {base kb : Nat} {lv wv : Value} {held : Int} {E : List EntL} {la : Option Addr} {ln lc : Nat} {xs : List L6} (h : BkL w base kb lv wv held E) (hl : OwnL w base (.slice la ln lc) xs) (hxs : SmL xs) (hsm : SmL xs) (hlen : E.length ≤ 4000) (hbase : base ≤ w.heap.size) (hf : ∀ k, (Value.slice la ln lc).ownBlock = some k → k ∉ blksL E) :
    Calls Try.prog 23 #[.pointer (some ⟨kb, 0, none⟩), .slice la ln lc] w fun e w' => e = .returned (.tuple #[]) ∧ ∃ lv' wv' held' E', BkL w' base kb lv' wv' held' E' ∧ E'.length ≤ 4000 ∧ (∀ k ∈ blksL E', k ∈ blksL E ∨ (Value.slice la ln lc).ownBlock = some k ∨ w.heap.size ≤ k) ∧ KeL base kb w w' := by
  refine (keepL_any h.bw h.ents hl hxs hsm hlen hbase).mono ?_
  rintro e w' ⟨rfl, cv, hcv, E', hk, hl'⟩
  obtain ⟨lv', wv', held', hb⟩ := hk.bw
  have hsub : (blksL E').Sublist (blksL (E ++ [⟨.slice la ln lc, cv, xs⟩])) := by
    obtain ⟨t, ht⟩ := hk.suf
    rw [← ht, blksL_append]
    exact List.sublist_append_right _ _
  have hbl : blksL (E ++ [⟨.slice la ln lc, cv, xs⟩]) = blksL E ++ ((Value.slice la ln lc).ownBlock.toList ++ cv.ownBlock.toList) := by rw [blksL_append]; simp [blksL, EntL.bl]
  have hlt := blksL_lt h.ents
  have hnd : (blksL (E ++ [⟨.slice la ln lc, cv, xs⟩])).Nodup := by
    rw [hbl]
    refine List.nodup_append.2 ⟨h.nodup, List.nodup_append.2 ⟨?_, ?_, fun a ha b hb e => ?_⟩, fun a ha b hb e => ?_⟩
    · cases (Value.slice la ln lc).ownBlock <;> simp
    · cases cv.ownBlock <;> simp
    · subst e
      have h1 := (hl.lt a (by simpa using ha)).2
      have h2 := hcv a (by simpa using hb)
      omega
    · subst e
      rcases List.mem_append.1 hb with hb | hb
      · exact hf a (by simpa using hb) ha
      · have h1 := hlt a ha
        have h2 := hcv a (by simpa using hb)
        omega
  refine ⟨rfl, lv', wv', held', E', ⟨hb.blk, hb.lrow, hb.wrow, hb.ne, hk.ents, hnd.sublist hsub⟩, hl', fun k hk' => ?_, hk.ke⟩
  have := hsub.subset hk'
  rw [hbl] at this
  rcases List.mem_append.1 this with h1 | h1
  · exact .inl h1
  · rcases List.mem_append.1 h1 with h1 | h1
    · exact .inr (.inl (by simpa using h1))
    · exact .inr (.inr (hcv k (by simpa using h1)))
theorem disL_of {E : List EntL} (h : (blksL E).Nodup) : DisL E := by
  intro i i' hi hi' hne g n c g' n' c' e e' hg
  subst hg
  have key : ∀ (E : List EntL), (blksL E).Nodup → ∀ i i' (hi : i < E.length) (hi' : i' < E.length), i < i' → E[i].lv.ownBlock = some g → E[i'].lv.ownBlock = some g → False := by
    intro E
    induction E with
    | nil => intro _ i _ hi; simp at hi
    | cons x xs ih =>
      intro hnd i i' hi hi' hlt h1 h2
      have hc : blksL (x :: xs) = x.bl ++ blksL xs := by simp [blksL]
      rw [hc] at hnd
      obtain ⟨_, n2, n3⟩ := List.nodup_append.1 hnd
      cases i' with
      | zero => omega
      | succ k' =>
        have hk' : k' < xs.length := by simpa using hi'
        simp only [List.getElem_cons_succ] at h2
        cases i with
        | zero =>
          simp only [List.getElem_cons_zero] at h1
          refine n3 g ?_ g ?_ rfl
          · simp [EntL.bl, h1]
          · exact mem_blksL.2 ⟨xs[k'], List.getElem_mem _, .inl h2⟩
        | succ k =>
          simp only [List.getElem_cons_succ] at h1
          exact ih n2 k k' (by simpa using hi) (by simpa using hi') (by omega) h1 h2
  have b1 : E[i].lv.ownBlock = some g := by rw [e]; rfl
  have b2 : E[i'].lv.ownBlock = some g := by rw [e']; rfl
  rcases Nat.lt_or_gt_of_ne hne with hlt | hlt
  · exact key E h i i' hi hi' hlt b1 b2
  · exact key E h i' i hi' hi hlt b2 b1
theorem bkL_apart {w : World} {base kb : Nat} {lv wv : Value} {held : Int} {E : List EntL} (h : BkL w base kb lv wv held E) (hlen : E.length ≤ 4000) :
    Calls Try.prog 10 #[.pointer (some ⟨kb, 0, none⟩), .func (.func 11) #[] #[]] w fun e w' => e = .returned (.bool true) ∧ Keeps (fun k => k = kb ∨ ∃ e ∈ E, e.lv.ownBlock = some k) w w' :=
  apartL_any h.bw h.ents hlen (disL_of h.nodup) (enters_of Try.func11 (by kernel_rfl) rfl) (fun i j w hi hj => markL_any i j w hi hj)
end Go.Proofs.Ytgjamnhepbblhaa
/- Pages: how many tables rows want. Own work. -/
namespace Go.Proofs.Ytgjamnhepbblhaa
open Go.RowKit Wk
set_option linter.unusedVariables false
theorem NxAt.put0 {w : World} {N a b c : Nat} (h : NxAt w N a b) : NxAt (w.setCell ⟨N, 0, none⟩ (.int .u64 (c : Int))) N c b := by
  have h' : w.heap[N]? = _ := h
  unfold NxAt
  simp [World.setCell, Array.getElem?_modify, h']
theorem NxAt.put1 {w : World} {N a b c : Nat} (h : NxAt w N a b) : NxAt (w.setCell ⟨N, 1, none⟩ (.int .u64 (c : Int))) N a c := by
  have h' : w.heap[N]? = _ := h
  unfold NxAt
  simp [World.setCell, Array.getElem?_modify, h']
/-- so many tables, counted from many on; of each level the entry behind the last one that is counted -/
def tabsF : Nat → Nat → Nat → List L6 → Nat
  | many, _, _, [] => many
  | many, n0, n1, x :: xs =>
    let e := x.v + x.n.toNat * 4096 - 1
    let k0 := thrF e 0 + 1
    let d0 := k0 - max (thrF x.v 0) n0
    if x.big = true then tabsF (many + d0) k0 n1 xs
    else
      let k1 := thrF e 1 + 1
      let d1 := k1 - max (thrF x.v 1) n1
      tabsF (many + d0 + d1) k0 k1 xs
theorem thr_step {t v e n g : Nat} (hg : 0 < g) (hn : n = 0 ∨ (n - 1) * g < t) (ht : t ≤ v) (he : v < e) : max (v / g) n ≤ (e - 1) / g + 1 ∧ ((e - 1) / g + 1 = 0 ∨ ((e - 1) / g + 1 - 1) * g < e) ∧ n ≤ (e - 1) / g + 1 := by
  have h1 : v / g ≤ (e - 1) / g := Nat.div_le_div_right (by omega)
  have h2 : (e - 1) / g * g ≤ e - 1 := Nat.div_mul_le_self _ _
  have h4 : n = 0 ∨ n - 1 ≤ v / g := hn.imp id fun h => (Nat.le_div_iff_mul_le hg).2 (by omega)
  generalize v / g = a at *
  generalize hc : (e - 1) / g * g = cc at *
  generalize (e - 1) / g = c at *
  refine ⟨Nat.max_le.2 ⟨by omega, by omega⟩, Or.inr ?_, by omega⟩
  rw [Nat.add_sub_cancel, hc]
  omega
theorem max_run (ts : Array TypeId) (ty : TypeId) {q n f : Nat} (hf : max q n = f) (w : World) : (Builtin.max_ ts ty #[.int .u64 (q : Int), .int .u64 (n : Int)]).run Try.prog w = .ok (.int .u64 (f : Int)) w := by
  have e : (if (n : Int) > (q : Int) then (n : Int) else (q : Int)) = (f : Int) := by
    split <;> omega
  rw [← e]
  rfl
theorem wp_max {o : Oper} {a : Act} {w : World} {K : Act → World → Prop} {Q : Exit → Act → World → Prop} (i j : Tmp) (ts : Array TypeId) (ho : o.op = .call { callee := .builtin .max, args := #[.tmp i, .tmp j], argTypes := ts }) {q n f : Nat} (hx : a.tmps[i]?.getD undef = .int .u64 (q : Int)) (hy : a.tmps[j]?.getD undef = .int .u64 (n : Int)) (hf : max q n = f) (hk : K (a.put o.dst (.int .u64 (f : Int))) w) : o.wp Try.prog a w K Q := by
  obtain ⟨dst, op, ty, pos, after, guard⟩ := o
  simp only at ho
  subst ho
  have hm := max_run ts ty hf w
  clear hf
  go_simp
  exact hk
theorem refuF_zero {t : Nat} {x : L6} {xs : List L6} (h : refuF t (x :: xs) = 0) : aloneF x = 0 ∧ t ≤ x.v ∧ refuF (x.v + x.n.toNat * 4096) xs = 0 := by
  unfold refuF at h
  by_cases h1 : aloneF x ≠ 0
  · rw [if_pos h1] at h
    exact absurd h h1
  rw [if_neg h1] at h
  by_cases h2 : x.v < t
  · rw [if_pos h2] at h
    cases h
  rw [if_neg h2] at h
  exact ⟨by omega, by omega, h⟩
set_option maxRecDepth 100000 in
set_option maxHeartbeats 4000000 in
theorem tables_any {w : World} {v : Value} {xs : List L6} (h : Lv w v xs) (hz : refuF 0 xs = 0) : Calls Try.prog 32 #[v] w fun e w' => e = .returned (.int .i64 (tabsF 1 0 0 xs : Int)) ∧ Below w.heap.size w w' := by
  have HR := Lib.hid h
  have HA : Hid (Below w.heap.size w (w.alloc (.cells #[.int .u64 0, .int .u64 0] 80))) := (Below.refl _ _).alloc (Nat.le_refl _) _
  have HNa : Hid (NxAt (w.alloc (.cells #[.int .u64 0, .int .u64 0] 80)) w.heap.size 0 0) := heap_alloc_new w _
  obtain ⟨ao, cap, rfl, h1, h2, h3, h9⟩ := h
  clear h9
  unfold maxLen at h2
  obtain ⟨n, hn⟩ : ∃ n, xs.length = n := ⟨_, rfl⟩
  have HN := Lib.hid hn
  have HX : Hid (∀ x ∈ xs, L6.ok x) := h3
  rw [hn] at h1 ⊢
  obtain ⟨RV, hRV⟩ : ∃ R, tabsF 1 0 0 xs = R := ⟨_, rfl⟩
  rw [hRV]
  have HR0 : Hid (tabsF 1 0 0 (xs.drop 0) = RV) := hRV
  have HZ0 : Hid (refuF 0 (xs.drop 0) = 0) := hz
  clear hn h3 hRV hz
  go_enter Try.func32, Try.ntmps32
  go_wp2_with fail
  generalize (w.alloc (.cells #[.int .u64 0, .int .u64 0] 80)) = w0 at *
  go_loopw [3, 11] (fun mv iv wr => ∃ (i t n0 n1 many : Nat), i ≤ n ∧ iv = .int .i64 (i : Int) ∧ mv = .int .u64 (many : Int) ∧ many ≤ 1 + n0 + n1 ∧ n0 ≤ 512 ∧ n1 ≤ 262144 ∧ Hid (n0 = 0 ∨ (n0 - 1) * 1073741824 < t) ∧ Hid (n1 = 0 ∨ (n1 - 1) * 2097152 < t) ∧ Hid (tabsF many n0 n1 (xs.drop i) = RV) ∧ Hid (refuF t (xs.drop i) = 0) ∧ Hid (NxAt wr w.heap.size n0 n1) ∧ Hid (Below w.heap.size w wr)) (fun _ iv _ => n - (intOf iv).toNat)
  case atStart => exact ⟨0, 0, 0, 0, 1, by omega, rfl, rfl, by omega, by omega, by omega, Or.inl rfl, Or.inl rfl, HR0, HZ0, HNa, HA⟩
  case round =>
    clear HA HNa HR0 HZ0
    obtain ⟨i, t, n0, n1, many, hi, rfl, rfl, hmy, hn0, hn1, HT0, HT1, HE, HZ, HNx, HB⟩ := hrel
    by_cases hin : i < n
    · have hix : i < xs.length := by rw [HN.out]; exact hin
      have ji : (i : Int) < (n : Int) := by omega
      have hw1 : IntKind.i64.wrap ((i : Int) + 1) = ((i + 1 : Nat) : Int) := by rw [IntKind.wrap_i64]; omega
      obtain ⟨_, _, e', _, _, _, hc⟩ := HR.out.below HB.out
      simp only [Value.slice.injEq] at e'
      obtain ⟨rfl, e9, rfl⟩ := e'
      clear e9
      obtain ⟨b, of, rfl, c0, c1, c2, c3, c4, c5⟩ := hc i hix
      have HD : Hid (tabsF many n0 n1 (xs[i] :: xs.drop (i + 1)) = RV) := by
        have := HE.out
        rw [List.drop_eq_getElem_cons hix] at this
        exact this
      have hzd : refuF t (xs[i] :: xs.drop (i + 1)) = 0 := by
        have := HZ.out
        rw [List.drop_eq_getElem_cons hix] at this
        exact this
      clear hc HE HZ
      generalize xs[i] = x at *
      obtain ⟨ha0, ht, hzr⟩ := refuF_zero hzd
      obtain ⟨z1, z2, z3, z4, z5, z6⟩ := aloneF_zero ha0
      obtain ⟨v, p, xn, xb, xw, xe⟩ := x
      simp only at z1 z4 ht hzr c0 c1 c2 c3 c4 c5
      obtain ⟨m, rfl⟩ : ∃ m : Nat, xn = (m : Int) := ⟨xn.toNat, by omega⟩
      have z4 : v + m * 4096 ≤ 549755813888 := z4
      have HZr : Hid (refuF (v + m * 4096) (xs.drop (i + 1)) = 0) := hzr
      have HEn0 := Lib.hid fun (W : World) => end_any (v := v) (p := p) (m := m) (b := xb) (wr := xw) (ex := xe) (by omega) W
      have HL1 := Lib.hid (LfAt.new' wr ⟨v, p, (m : Int), xb, xw, xe⟩)
      have HBl := Lib.hid (lf_below' wr ⟨v, p, (m : Int), xb, xw, xe⟩)
      unfold V6 at HEn0
      simp only at HL1 HBl HEn0
      have hvs : v < v + m * 4096 := by omega
      obtain ⟨g01, g02, g03⟩ := thr_step (g := 1073741824) (by omega) HT0.out ht hvs
      obtain ⟨g11, g12, g13⟩ := thr_step (g := 2097152) (by omega) HT1.out ht hvs
      have HT1o : Hid (n1 = 0 ∨ (n1 - 1) * 2097152 < t) := HT1
      clear hzd ha0 z2 z3 z5 z6 HT0 HT1 hzr
      cases xb with
      | false =>
        have hD : tabsF (many + (thrF (v + m * 4096 - 1) 0 + 1 - max (thrF v 0) n0) + (thrF (v + m * 4096 - 1) 1 + 1 - max (thrF v 1) n1)) (thrF (v + m * 4096 - 1) 0 + 1) (thrF (v + m * 4096 - 1) 1 + 1) (xs.drop (i + 1)) = RV := HD.out
        have HLv : Hid (∀ W, Calls Try.prog 40 #[.bool false] W fun e w' => e = .returned (.int .i64 2) ∧ w' = W) := fun W => leafLevel_any false W
        obtain ⟨s, hs⟩ : ∃ s, v + m * 4096 = s := ⟨_, rfl⟩
        rw [hs] at hD HEn0 HZr g01 g02 g03 g11 g12 g13 z4 hvs
        have hs' : 1 ≤ s := by omega
        obtain ⟨s1, hs1⟩ : ∃ s1, s - 1 = s1 := ⟨_, rfl⟩
        rw [hs1] at hD g01 g02 g03 g11 g12 g13
        have wS : IntKind.u64.wrap ((s : Int) - 1) = (s1 : Int) := by rw [IntKind.wrap_u64]; omega
        obtain ⟨q0, hq0⟩ : ∃ q, thrF v 0 = q := ⟨_, rfl⟩
        obtain ⟨r0, hr0⟩ : ∃ r, thrF s1 0 = r := ⟨_, rfl⟩
        have gq0 : v / 1073741824 = q0 := hq0
        have gr0 : s1 / 1073741824 = r0 := hr0
        rw [hq0, hr0] at hD
        rw [gq0, gr0] at g01
        rw [gr0] at g02 g03
        have gk0 : r0 + 1 ≤ 512 := by rw [← gr0]; omega
        obtain ⟨k0, hk0⟩ : ∃ k, r0 + 1 = k := ⟨_, rfl⟩
        obtain ⟨f0, hf0⟩ : ∃ f, max q0 n0 = f := ⟨_, rfl⟩
        rw [hk0, hf0] at hD g01
        rw [hk0] at g02 g03 gk0
        obtain ⟨d0, hd0⟩ : ∃ d, k0 - f0 = d := ⟨_, rfl⟩
        rw [hd0] at hD
        have wK0 : IntKind.u64.wrap ((r0 : Int) + 1) = (k0 : Int) := by rw [IntKind.wrap_u64]; omega
        have wD0 : IntKind.u64.wrap ((k0 : Int) - (f0 : Int)) = (d0 : Int) := by rw [IntKind.wrap_u64]; omega
        have HT0 : Hid (∀ W, Calls Try.prog 41 #[.int .u64 (v : Int), .int .i64 0] W fun e w' => e = .returned (.int .u64 (q0 : Int)) ∧ w' = W) := fun W => by rw [← hq0]; exact through_any v 0 (by omega) W
        have HE0 : Hid (∀ W, Calls Try.prog 41 #[.int .u64 (s1 : Int), .int .i64 0] W fun e w' => e = .returned (.int .u64 (r0 : Int)) ∧ w' = W) := fun W => by rw [← hr0]; exact through_any s1 0 (by omega) W
        have HG0 := Lib.hid g02
        have HI0 : Hid (n0 ≤ k0 ∧ k0 ≤ 512 ∧ f0 ≤ k0 ∧ n0 ≤ f0 ∧ k0 - f0 = d0) := ⟨g03, gk0, g01, by omega, hd0⟩
        have HM0 := Lib.hid hf0
        clear hq0 hr0 gq0 gr0 hk0 hf0 hd0 gk0
        obtain ⟨q1, hq1⟩ : ∃ q, thrF v 1 = q := ⟨_, rfl⟩
        obtain ⟨r1, hr1⟩ : ∃ r, thrF s1 1 = r := ⟨_, rfl⟩
        have gq1 : v / 2097152 = q1 := hq1
        have gr1 : s1 / 2097152 = r1 := hr1
        rw [hq1, hr1] at hD
        rw [gq1, gr1] at g11
        rw [gr1] at g12 g13
        have gk1 : r1 + 1 ≤ 262144 := by rw [← gr1]; omega
        obtain ⟨k1, hk1⟩ : ∃ k, r1 + 1 = k := ⟨_, rfl⟩
        obtain ⟨f1, hf1⟩ : ∃ f, max q1 n1 = f := ⟨_, rfl⟩
        rw [hk1, hf1] at hD g11
        rw [hk1] at g12 g13 gk1
        obtain ⟨d1, hd1⟩ : ∃ d, k1 - f1 = d := ⟨_, rfl⟩
        rw [hd1] at hD
        have wK1 : IntKind.u64.wrap ((r1 : Int) + 1) = (k1 : Int) := by rw [IntKind.wrap_u64]; omega
        have wD1 : IntKind.u64.wrap ((k1 : Int) - (f1 : Int)) = (d1 : Int) := by rw [IntKind.wrap_u64]; omega
        have HT1 : Hid (∀ W, Calls Try.prog 41 #[.int .u64 (v : Int), .int .i64 1] W fun e w' => e = .returned (.int .u64 (q1 : Int)) ∧ w' = W) := fun W => by rw [← hq1]; exact through_any v 1 (by omega) W
        have HE1 : Hid (∀ W, Calls Try.prog 41 #[.int .u64 (s1 : Int), .int .i64 1] W fun e w' => e = .returned (.int .u64 (r1 : Int)) ∧ w' = W) := fun W => by rw [← hr1]; exact through_any s1 1 (by omega) W
        have HG1 := Lib.hid g12
        have HI1 : Hid (n1 ≤ k1 ∧ k1 ≤ 262144 ∧ f1 ≤ k1 ∧ n1 ≤ f1 ∧ k1 - f1 = d1) := ⟨g13, gk1, g11, by omega, hd1⟩
        have HM1 := Lib.hid hf1
        clear hq1 hr1 gq1 gr1 hk1 hf1 hd1 gk1
        have HEn := HEn0
        have HZs := Lib.hid z4
        obtain ⟨M0, hM0⟩ : ∃ M, many + d0 = M := ⟨_, rfl⟩
        obtain ⟨M1, hM1⟩ : ∃ M, M0 + d1 = M := ⟨_, rfl⟩
        rw [hM0, hM1] at hD
        have wM0 : IntKind.u64.wrap ((many : Int) + (d0 : Int)) = (M0 : Int) := by rw [IntKind.wrap_u64]; have := HI0.out; omega
        have wM1 : IntKind.u64.wrap ((M0 : Int) + (d1 : Int)) = (M1 : Int) := by rw [IntKind.wrap_u64]; have := HI0.out; have := HI1.out; omega
        have HMy : Hid (M1 ≤ 1 + k0 + k1) := by have := HI0.out; have := HI1.out; show M1 ≤ 1 + k0 + k1; omega
        clear hM0 hM1
        have HDD := Lib.hid hD
        clear hD HEn0 HD hs z4 hvs g01 g02 g03 g11 g12 g13 z1 ht hs1 hs'
        go_wp2_with fail
        refine (HLv.out _).mono ?_
        rintro e w8 ⟨rfl, hw8⟩
        have hw8 := hw8.symm
        subst hw8
        have HN1 := Lib.hid (HNx.out.below HBl.out)
        have HB1 := Lib.hid (HB.out.trans (HBl.out.mono HB.out.size))
        have HSz : Hid (w.heap.size ≤ wr.heap.size) := HB.out.size
        have hXN : wr.heap.size ≠ w.heap.size := Nat.ne_of_gt HNx.out.lt
        clear HBl HB HNx c0 c1 c2 c3 c4 c5
        generalize (wr.alloc (.cells #[.int .u64 (v : Int), .int .u64 (p : Int), .int .i64 (m : Int), .bool false, .bool xw, .bool xe] 34)) = w1 at *
        generalize wr.heap.size = X at *
        obtain ⟨c0, c1, c2, c3, c4, c5⟩ := HL1.out.cells
        simp only at c0 c1 c2 c3 c4 c5
        go_wp2_with fail
        refine wp_loop_rounds 3 ?_
        clear c0 c1 c2 c3 c4 c5
        rw [rounds_succ]
        obtain ⟨c0, c1, c2, c3, c4, c5⟩ := HL1.out.cells
        simp only at c0 c1 c2 c3 c4 c5
        obtain ⟨m0, m1⟩ := HN1.out.cells
        go_wp2_with fail
        go_region_held3 (fun w' => w'.cell? ⟨X, 0, none⟩ = some (.int .u64 (v : Int)) ∧ w'.cell? ⟨w.heap.size, 0, none⟩ = some (.int .u64 (n0 : Int))) (go_keep) (first | (go_at_call 41; refine (HT0.out _).mono ?_; rintro e w9 ⟨rfl, hw9⟩; have hw9 := hw9.symm; subst hw9) | (rw [if_pos (by rfl)]; refine wp_max 24 27 _ rfl rfl rfl HM0.out ?_))
        have hd1 : LfAt w1.drew X ⟨v, p, (m : Int), false, xw, xe⟩ := HL1.out
        have hd2 : NxAt w1.drew w.heap.size n0 n1 := HN1.out
        have hd3 : Below w.heap.size w w1.drew := HB1.out.drew
        have HL := Lib.hid hd1
        have HNn := Lib.hid hd2
        have HB := Lib.hid hd3
        clear hd1 hd2 hd3 HL1 HN1 HB1 c0 c1 c2 c3 c4 c5 m0 m1
        generalize w1.drew = wd1 at *
        obtain ⟨c0, c1, c2, c3, c4, c5⟩ := HL.out.cells
        simp only at c0 c1 c2 c3 c4 c5
        go_wp2_with fail
        refine (HEn.out _).mono ?_
        rintro e w2 ⟨rfl, hb⟩
        have HL2 := Lib.hid (HL.out.below hb)
        have HN2 := Lib.hid (HNn.out.below hb)
        have HB2 := Lib.hid (HB.out.trans (hb.mono HB.out.size))
        clear hb HL HNn HB c0 c1 c2 c3 c4 c5
        obtain ⟨m0, m1⟩ := HN2.out.cells
        have f0' := HN2.out.free 0
        have f1' := HN2.out.free 1
        go_wp2_with fail
        refine (HE0.out _).mono ?_
        rintro e w3 ⟨rfl, hw9⟩
        have hw9 := hw9.symm
        subst hw9
        have HL3 : Hid (LfAt (w2.setCell ⟨w.heap.size, 0, none⟩ (.int .u64 (k0 : Int))) X ⟨v, p, (m : Int), false, xw, xe⟩) := (Below.heap_setCell _ _ _ _ hXN).trans HL2.out
        have HN3 : Hid (NxAt (w2.setCell ⟨w.heap.size, 0, none⟩ (.int .u64 (k0 : Int))) w.heap.size k0 n1) := HN2.out.put0
        have HB3 : Hid (Below w.heap.size w (w2.setCell ⟨w.heap.size, 0, none⟩ (.int .u64 (k0 : Int)))) := HB2.out.setCell (Nat.le_refl _) _
        go_wp2_with fail
        clear HL2 HN2 HB2 m0 m1 f0' f1'
        generalize (w2.setCell ⟨w.heap.size, 0, none⟩ (.int .u64 (k0 : Int))) = w3 at *
        rw [rounds_succ]
        obtain ⟨c0, c1, c2, c3, c4, c5⟩ := HL3.out.cells
        simp only at c0 c1 c2 c3 c4 c5
        obtain ⟨m0, m1⟩ := HN3.out.cells
        go_wp2_with fail
        go_region_held3 (fun w' => w'.cell? ⟨X, 0, none⟩ = some (.int .u64 (v : Int)) ∧ w'.cell? ⟨w.heap.size, 1, none⟩ = some (.int .u64 (n1 : Int))) (go_keep) (first | (go_at_call 41; refine (HT1.out _).mono ?_; rintro e w9 ⟨rfl, hw9⟩; have hw9 := hw9.symm; subst hw9) | (rw [if_pos (by rfl)]; refine wp_max 24 27 _ rfl rfl rfl HM1.out ?_))
        have hd1 : LfAt w3.drew X ⟨v, p, (m : Int), false, xw, xe⟩ := HL3.out
        have hd2 : NxAt w3.drew w.heap.size k0 n1 := HN3.out
        have hd3 : Below w.heap.size w w3.drew := HB3.out.drew
        have HL := Lib.hid hd1
        have HNn := Lib.hid hd2
        have HB := Lib.hid hd3
        clear hd1 hd2 hd3 HL3 HN3 HB3 c0 c1 c2 c3 c4 c5 m0 m1
        generalize w3.drew = wd3 at *
        obtain ⟨c0, c1, c2, c3, c4, c5⟩ := HL.out.cells
        simp only at c0 c1 c2 c3 c4 c5
        go_wp2_with fail
        refine (HEn.out _).mono ?_
        rintro e w4 ⟨rfl, hb⟩
        have HL4 := Lib.hid (HL.out.below hb)
        have HN4 := Lib.hid (HNn.out.below hb)
        have HB4 := Lib.hid (HB.out.trans (hb.mono HB.out.size))
        clear hb HL HNn HB c0 c1 c2 c3 c4 c5
        obtain ⟨m0, m1⟩ := HN4.out.cells
        have f0' := HN4.out.free 0
        have f1' := HN4.out.free 1
        go_wp2_with fail
        refine (HE1.out _).mono ?_
        rintro e w5 ⟨rfl, hw9⟩
        have hw9 := hw9.symm
        subst hw9
        have HL5 : Hid (LfAt (w4.setCell ⟨w.heap.size, 1, none⟩ (.int .u64 (k1 : Int))) X ⟨v, p, (m : Int), false, xw, xe⟩) := (Below.heap_setCell _ _ _ _ hXN).trans HL4.out
        have HN5 : Hid (NxAt (w4.setCell ⟨w.heap.size, 1, none⟩ (.int .u64 (k1 : Int))) w.heap.size k0 k1) := HN4.out.put1
        have HB5 : Hid (Below w.heap.size w (w4.setCell ⟨w.heap.size, 1, none⟩ (.int .u64 (k1 : Int)))) := HB4.out.setCell (Nat.le_refl _) _
        go_wp2_with fail
        clear HL4 HN4 HB4 m0 m1 f0' f1'
        generalize (w4.setCell ⟨w.heap.size, 1, none⟩ (.int .u64 (k1 : Int))) = w5 at *
        rw [rounds_succ]
        go_wp2_with fail
        go_roundw
        case rel => exact ⟨i + 1, s, k0, k1, M1, by omega, rfl, rfl, HMy.out, by have := HI0.out; omega, by have := HI1.out; omega, HG0.out, HG1.out, HDD, HZr, HN5, HB5⟩
        case measure => simp [intOf]; omega
      | true =>
        have hD : tabsF (many + (thrF (v + m * 4096 - 1) 0 + 1 - max (thrF v 0) n0)) (thrF (v + m * 4096 - 1) 0 + 1) n1 (xs.drop (i + 1)) = RV := HD.out
        have HLv : Hid (∀ W, Calls Try.prog 40 #[.bool true] W fun e w' => e = .returned (.int .i64 1) ∧ w' = W) := fun W => leafLevel_any true W
        obtain ⟨s, hs⟩ : ∃ s, v + m * 4096 = s := ⟨_, rfl⟩
        rw [hs] at hD HEn0 HZr g01 g02 g03 g11 g12 g13 z4 hvs
        have hs' : 1 ≤ s := by omega
        obtain ⟨s1, hs1⟩ : ∃ s1, s - 1 = s1 := ⟨_, rfl⟩
        rw [hs1] at hD g01 g02 g03 g11 g12 g13
        have wS : IntKind.u64.wrap ((s : Int) - 1) = (s1 : Int) := by rw [IntKind.wrap_u64]; omega
        have HT1s := Lib.hid (HT1o.out.imp id (fun h => Nat.lt_of_lt_of_le h (show t ≤ s by omega)))
        obtain ⟨q0, hq0⟩ : ∃ q, thrF v 0 = q := ⟨_, rfl⟩
        obtain ⟨r0, hr0⟩ : ∃ r, thrF s1 0 = r := ⟨_, rfl⟩
        have gq0 : v / 1073741824 = q0 := hq0
        have gr0 : s1 / 1073741824 = r0 := hr0
        rw [hq0, hr0] at hD
        rw [gq0, gr0] at g01
        rw [gr0] at g02 g03
        have gk0 : r0 + 1 ≤ 512 := by rw [← gr0]; omega
        obtain ⟨k0, hk0⟩ : ∃ k, r0 + 1 = k := ⟨_, rfl⟩
        obtain ⟨f0, hf0⟩ : ∃ f, max q0 n0 = f := ⟨_, rfl⟩
        rw [hk0, hf0] at hD g01
        rw [hk0] at g02 g03 gk0
        obtain ⟨d0, hd0⟩ : ∃ d, k0 - f0 = d := ⟨_, rfl⟩
        rw [hd0] at hD
        have wK0 : IntKind.u64.wrap ((r0 : Int) + 1) = (k0 : Int) := by rw [IntKind.wrap_u64]; omega
        have wD0 : IntKind.u64.wrap ((k0 : Int) - (f0 : Int)) = (d0 : Int) := by rw [IntKind.wrap_u64]; omega
        have HT0 : Hid (∀ W, Calls Try.prog 41 #[.int .u64 (v : Int), .int .i64 0] W fun e w' => e = .returned (.int .u64 (q0 : Int)) ∧ w' = W) := fun W => by rw [← hq0]; exact through_any v 0 (by omega) W
        have HE0 : Hid (∀ W, Calls Try.prog 41 #[.int .u64 (s1 : Int), .int .i64 0] W fun e w' => e = .returned (.int .u64 (r0 : Int)) ∧ w' = W) := fun W => by rw [← hr0]; exact through_any s1 0 (by omega) W
        have HG0 := Lib.hid g02
        have HI0 : Hid (n0 ≤ k0 ∧ k0 ≤ 512 ∧ f0 ≤ k0 ∧ n0 ≤ f0 ∧ k0 - f0 = d0) := ⟨g03, gk0, g01, by omega, hd0⟩
        have HM0 := Lib.hid hf0
        clear hq0 hr0 gq0 gr0 hk0 hf0 hd0 gk0
        have HEn := HEn0
        have HZs := Lib.hid z4
        obtain ⟨M0, hM0⟩ : ∃ M, many + d0 = M := ⟨_, rfl⟩
        rw [hM0] at hD
        have wM0 : IntKind.u64.wrap ((many : Int) + (d0 : Int)) = (M0 : Int) := by rw [IntKind.wrap_u64]; have := HI0.out; omega
        have HMy : Hid (M0 ≤ 1 + k0 + n1) := by have := HI0.out; show M0 ≤ 1 + k0 + n1; omega
        have HT1 : Hid (n1 = 0 ∨ (n1 - 1) * 2097152 < s) := HT1s
        clear hM0
        have HDD := Lib.hid hD
        clear hD HEn0 HD hs z4 hvs g01 g02 g03 g11 g12 g13 z1 ht hs1 hs'
        go_wp2_with fail
        refine (HLv.out _).mono ?_
        rintro e w8 ⟨rfl, hw8⟩
        have hw8 := hw8.symm
        subst hw8
        have HN1 := Lib.hid (HNx.out.below HBl.out)
        have HB1 := Lib.hid (HB.out.trans (HBl.out.mono HB.out.size))
        have HSz : Hid (w.heap.size ≤ wr.heap.size) := HB.out.size
        have hXN : wr.heap.size ≠ w.heap.size := Nat.ne_of_gt HNx.out.lt
        clear HBl HB HNx c0 c1 c2 c3 c4 c5
        generalize (wr.alloc (.cells #[.int .u64 (v : Int), .int .u64 (p : Int), .int .i64 (m : Int), .bool true, .bool xw, .bool xe] 34)) = w1 at *
        generalize wr.heap.size = X at *
        obtain ⟨c0, c1, c2, c3, c4, c5⟩ := HL1.out.cells
        simp only at c0 c1 c2 c3 c4 c5
        go_wp2_with fail
        refine wp_loop_rounds 2 ?_
        clear c0 c1 c2 c3 c4 c5
        rw [rounds_succ]
        obtain ⟨c0, c1, c2, c3, c4, c5⟩ := HL1.out.cells
        simp only at c0 c1 c2 c3 c4 c5
        obtain ⟨m0, m1⟩ := HN1.out.cells
        go_wp2_with fail
        go_region_held3 (fun w' => w'.cell? ⟨X, 0, none⟩ = some (.int .u64 (v : Int)) ∧ w'.cell? ⟨w.heap.size, 0, none⟩ = some (.int .u64 (n0 : Int))) (go_keep) (first | (go_at_call 41; refine (HT0.out _).mono ?_; rintro e w9 ⟨rfl, hw9⟩; have hw9 := hw9.symm; subst hw9) | (rw [if_pos (by rfl)]; refine wp_max 24 27 _ rfl rfl rfl HM0.out ?_))
        have hd1 : LfAt w1.drew X ⟨v, p, (m : Int), true, xw, xe⟩ := HL1.out
        have hd2 : NxAt w1.drew w.heap.size n0 n1 := HN1.out
        have hd3 : Below w.heap.size w w1.drew := HB1.out.drew
        have HL := Lib.hid hd1
        have HNn := Lib.hid hd2
        have HB := Lib.hid hd3
        clear hd1 hd2 hd3 HL1 HN1 HB1 c0 c1 c2 c3 c4 c5 m0 m1
        generalize w1.drew = wd1 at *
        obtain ⟨c0, c1, c2, c3, c4, c5⟩ := HL.out.cells
        simp only at c0 c1 c2 c3 c4 c5
        go_wp2_with fail
        refine (HEn.out _).mono ?_
        rintro e w2 ⟨rfl, hb⟩
        have HL2 := Lib.hid (HL.out.below hb)
        have HN2 := Lib.hid (HNn.out.below hb)
        have HB2 := Lib.hid (HB.out.trans (hb.mono HB.out.size))
        clear hb HL HNn HB c0 c1 c2 c3 c4 c5
        obtain ⟨m0, m1⟩ := HN2.out.cells
        have f0' := HN2.out.free 0
        have f1' := HN2.out.free 1
        go_wp2_with fail
        refine (HE0.out _).mono ?_
        rintro e w3 ⟨rfl, hw9⟩
        have hw9 := hw9.symm
        subst hw9
        have HL3 : Hid (LfAt (w2.setCell ⟨w.heap.size, 0, none⟩ (.int .u64 (k0 : Int))) X ⟨v, p, (m : Int), true, xw, xe⟩) := (Below.heap_setCell _ _ _ _ hXN).trans HL2.out
        have HN3 : Hid (NxAt (w2.setCell ⟨w.heap.size, 0, none⟩ (.int .u64 (k0 : Int))) w.heap.size k0 n1) := HN2.out.put0
        have HB3 : Hid (Below w.heap.size w (w2.setCell ⟨w.heap.size, 0, none⟩ (.int .u64 (k0 : Int)))) := HB2.out.setCell (Nat.le_refl _) _
        go_wp2_with fail
        clear HL2 HN2 HB2 m0 m1 f0' f1'
        generalize (w2.setCell ⟨w.heap.size, 0, none⟩ (.int .u64 (k0 : Int))) = w3 at *
        rw [rounds_succ]
        go_wp2_with fail
        go_roundw
        case rel => exact ⟨i + 1, s, k0, n1, M0, by omega, rfl, rfl, HMy.out, by have := HI0.out; omega, hn1, HG0.out, HT1.out, HDD, HZr, HN3, HB3⟩
        case measure => simp [intOf]; omega
    · obtain rfl : i = n := by omega
      have HF : Hid (many = RV) := by
        have := HE.out
        rw [List.drop_eq_nil_of_le (by rw [HN.out]; exact Nat.le_refl _)] at this
        exact this
      have hwm : IntKind.i64.wrap (many : Int) = (many : Int) := by rw [IntKind.wrap_i64]; omega
      go_wp2_with fail
      go_ret
      exact ⟨by rw [← HF.out]; rfl, HB.out⟩
end Go.Proofs.Ytgjamnhepbblhaa
