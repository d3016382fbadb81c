import Derived.Test.YtgjamnhepbblhaaPk30
import Derived.Test.YtgjamnhepbblhaaPk25
import Derived.Test.YtgjamnhepbblhaaPk37
import Derived.Test.YtgjamnhepbblhaaPk16
import Derived.Test.YtgjamnhepbblhaaPk38
import Derived.Test.YtgjamnhepbblhaaPk39
import Derived.Test.YtgjamnhepbblhaaPk26
/- Pages: the document's Build, where it refuses. Own work. -/
namespace Go.Proofs.Ytgjamnhepbblhaa
open Go.RowKit Wk
set_option linter.unusedVariables false
set_option maxRecDepth 100000 in
set_option maxHeartbeats 4000000 in
theorem rbuild_no {w : World} {v : Value} {xs : List L6} {base : Nat} (h : Lv w v xs) (hb : base ≤ 18446744073709551615) (hy : whyF xs base ≠ 0) : Calls Try.prog 14 #[v, .int .u64 (base : Int)] w fun e w' => e = .returned (.tuple #[.slice none 0 0, .int .i64 (whyF xs base)]) ∧ Below w.heap.size w w' := by
  have HCt := Lib.hid (rcount_any h)
  have hcl := countF_le xs
  obtain ⟨wy, hwy⟩ : ∃ y, whyF xs base = y := ⟨_, rfl⟩
  rw [hwy] at hy ⊢
  unfold whyF at hwy
  obtain ⟨k, hk⟩ : ∃ k, (countF xs).1 = k := ⟨_, rfl⟩
  obtain ⟨ce, hce⟩ : ∃ c, (countF xs).2 = c := ⟨_, rfl⟩
  rw [hk] at HCt hwy hcl
  rw [hce] at HCt hwy
  clear hk hce h
  by_cases h0 : ce ≠ 0
  · rw [if_pos h0] at hwy
    subst hwy
    have h0' : ¬ ce = 0 := h0
    go_enter Try.func14, Try.ntmps14
    go_wp2_with fail
    refine HCt.out.mono ?_
    rintro e w1 ⟨rfl, hb1⟩
    have HB1 := Lib.hid hb1
    clear hb1 HCt
    go_wp2_with fail
    go_ret2
    exact ⟨rfl, HB1.out⟩
  · rw [if_neg h0] at hwy
    have h0' : ce = 0 := by omega
    subst h0'
    by_cases h1 : base % 4096 ≠ 0
    · rw [if_pos h1] at hwy
      subst hwy
      obtain ⟨r, hr⟩ : ∃ r, base % 4096 = r := ⟨_, rfl⟩
      have jr : (base : Int).tmod 4096 = (r : Int) := by rw [← hr]; rfl
      have jr0 : (0 : Int) < (r : Int) := by omega
      have jr4 : r ≤ 4096 := by omega
      clear hr h1
      go_enter Try.func14, Try.ntmps14
      go_wp2_with fail
      refine HCt.out.mono ?_
      rintro e w1 ⟨rfl, hb1⟩
      have HB1 := Lib.hid hb1
      clear hb1 HCt
      go_wp2_with fail
      go_ret2
      exact ⟨rfl, HB1.out⟩
    · rw [if_neg h1] at hwy
      have jm : ((base : Int).tmod 4096) = 0 := by
        have e : (base : Int).tmod 4096 = ((base % 4096 : Nat) : Int) := rfl
        rw [e, show base % 4096 = 0 by omega]
        rfl
      cases h2 : winB base k 4294967296 with
      | true => rw [h2] at hwy; simp at hwy; exact absurd hwy.symm hy
      | false =>
        rw [if_pos h2] at hwy
        subst hwy
        have h3 : ¬ base + k * 4096 ≤ 4294967296 := of_decide_eq_false h2
        clear h1 h2
        by_cases ha : 4294967296 ≤ base
        · have ja : decide ((4294967296 : Int) ≤ (base : Int)) = true := decide_eq_true (by omega)
          have ja2 : (4294967296 : Int) ≤ (base : Int) := by omega
          go_enter Try.func14, Try.ntmps14
          go_wp2_with fail
          refine HCt.out.mono ?_
          rintro e w1 ⟨rfl, hb1⟩
          have HB1 := Lib.hid hb1
          clear hb1 HCt
          go_wp2_with fail
          go_ret2
          exact ⟨rfl, HB1.out⟩
        · have jb : decide ((4294967296 : Int) ≤ (base : Int)) = false := decide_eq_false (by omega)
          obtain ⟨q1, hq1⟩ : ∃ q : Nat, 4294967296 - base = q := ⟨_, rfl⟩
          have ws1 : IntKind.u64.wrap (4294967296 - (base : Int)) = (q1 : Int) := by rw [IntKind.wrap_u64]; omega
          obtain ⟨s1, hs1⟩ : ∃ s : Nat, q1 / 4096 = s := ⟨_, rfl⟩
          have wq1 : (q1 : Int).tdiv 4096 = (s1 : Int) := by rw [← hs1]; rfl
          have hs1b : s1 ≤ 4294967296 := by omega
          have jd : (s1 : Int) < (k : Int) := by omega
          have wk : IntKind.u64.wrap (k : Int) = (k : Int) := by rw [IntKind.wrap_u64]; omega
          clear hq1 hs1 h3 ha
          go_enter Try.func14, Try.ntmps14
          go_wp2_with fail
          refine HCt.out.mono ?_
          rintro e w1 ⟨rfl, hb1⟩
          have HB1 := Lib.hid hb1
          clear hb1 HCt
          go_wp2_with fail
          go_ret2
          exact ⟨rfl, HB1.out⟩
end Go.Proofs.Ytgjamnhepbblhaa
/- Pages: asked: Count, Build and Runs of rows, asked twice. Own work. -/
namespace Go.Proofs.Ytgjamnhepbblhaa
open Go.RowKit Wk
set_option linter.unusedVariables false
/-- what Build answers, what Runs answers -/
def bT (xs : List L6) (base : Nat) : TM := if whyF xs base = 0 then (tabsF 1 0 0 xs, bldM xs base) else (0, fun _ => 0)
def rT (xs : List L6) : List L6 := if refuF 0 xs ≠ 0 then [] else runsF [] xs
theorem bT_sm (xs : List L6) (base : Nat) : SmU (bT xs base) := by
  unfold SmU bT
  by_cases h : whyF xs base = 0
  · rw [if_pos h]
    exact (why_zero h).2.2.1
  · rw [if_neg h]
    exact Nat.zero_le _
theorem rT_sm {xs : List L6} (hl : xs.length ≤ 20000) : SmL (rT xs) := by
  unfold SmL rT
  by_cases h : refuF 0 xs = 0
  · rw [if_neg (by simp [h])]
    obtain ⟨rr, _, rl⟩ := runs_ok h
    exact ⟨by omega, fun y hy => (alone_ok (refu_all rr y hy)).1⟩
  · rw [if_pos h]
    exact ⟨by simp, fun y hy => by cases hy⟩
theorem build_both {w : World} {v : Value} {xs : List L6} {base : Nat} (h : Lv w v xs) (hb : base ≤ 18446744073709551615) : Calls Try.prog 17 #[v, .int .u64 (base : Int)] w fun e w' => ∃ ua uc, e = .returned (.tuple #[.slice ua (bT xs base).1 uc, .int .i64 (whyF xs base)]) ∧ OwnU w' w.heap.size (.slice ua (bT xs base).1 uc) (bT xs base) ∧ Below w.heap.size w w' := by
  by_cases hy : whyF xs base = 0
  · refine (build_yes h hb hy rfl).mono ?_
    rintro e w' ⟨G, rfl, hg, hG, hbl⟩
    have e1 : bT xs base = (tabsF 1 0 0 xs, bldM xs base) := if_pos hy
    rw [e1, hy]
    exact ⟨_, _, rfl, hg.own hG (why_zero hy).2.2.1, hbl⟩
  · refine (build_no h hb hy).mono ?_
    rintro e w' ⟨rfl, hbl⟩
    have e1 : bT xs base = (0, fun _ => 0) := if_neg hy
    rw [e1]
    exact ⟨none, 0, rfl, OwnTm.nil _ _ _, hbl⟩
theorem rbuild_both {w : World} {v : Value} {xs : List L6} {base : Nat} (h : Lv w v xs) (hb : base ≤ 18446744073709551615) : Calls Try.prog 14 #[v, .int .u64 (base : Int)] w fun e w' => ∃ ua uc, e = .returned (.tuple #[.slice ua (bT xs base).1 uc, .int .i64 (whyF xs base)]) ∧ OwnU w' w.heap.size (.slice ua (bT xs base).1 uc) (bT xs base) ∧ Below w.heap.size w w' := by
  by_cases hy : whyF xs base = 0
  · refine (rbuild_full h hb hy).mono ?_
    rintro e w' ⟨u, rfl, hg, hbl⟩
    have e1 : bT xs base = (tabsF 1 0 0 xs, bldM xs base) := if_pos hy
    rw [e1, hy]
    obtain ⟨a, c, rfl⟩ := hg.form
    exact ⟨_, _, rfl, hg, hbl⟩
  · refine (rbuild_no h hb hy).mono ?_
    rintro e w' ⟨rfl, hbl⟩
    have e1 : bT xs base = (0, fun _ => 0) := if_neg hy
    rw [e1]
    exact ⟨none, 0, rfl, OwnTm.nil _ _ _, hbl⟩
theorem runs_both {w : World} {v : Value} {xs : List L6} (h : Lv w v xs) (hl : xs.length ≤ 20000) : Calls Try.prog 18 #[v] w fun e w' => ∃ ua uc, e = .returned (.slice ua (rT xs).length uc) ∧ OwnL w' w.heap.size (.slice ua (rT xs).length uc) (rT xs) ∧ Below w.heap.size w w' := by
  refine (runs_any h (by omega)).mono ?_
  rintro e w' ⟨u, rfl, hg, hbl⟩
  have hg' : OwnL w' w.heap.size u (rT xs) := hg
  obtain ⟨a, c, rfl⟩ := hg'.form
  exact ⟨_, _, rfl, hg', hbl⟩
theorem rruns_both {w : World} {v : Value} {xs : List L6} (h : Lv w v xs) (hl : xs.length ≤ 20000) : Calls Try.prog 15 #[v] w fun e w' => ∃ ua uc, e = .returned (.slice ua (rT xs).length uc) ∧ OwnL w' w.heap.size (.slice ua (rT xs).length uc) (rT xs) ∧ Below w.heap.size w w' := by
  refine (rruns_any h (by omega)).mono ?_
  rintro e w' ⟨u, rfl, hg, hbl⟩
  have hg' : OwnL w' w.heap.size u (rT xs) := hg
  obtain ⟨a, c, rfl⟩ := hg'.form
  exact ⟨_, _, rfl, hg', hbl⟩
/-- a block of this type -/
def Tagd (w : World) (t : TypeId) (k : Nat) : Prop := ∃ cur, w.heap[k]? = some (.cells cur t (0, 0))
theorem Tagd.ne {w : World} {t t' : TypeId} {k : Nat} (h : Tagd w t k) (h' : Tagd w t' k) (hn : t ≠ t') : False := by
  obtain ⟨c, hc⟩ := h
  obtain ⟨d, hd⟩ := h'
  rw [hc] at hd
  simp at hd
  exact hn hd.2
/-- what the two books may write -/
def KxS (B : Nat) (w : World) (k : Nat) : Prop := B ≤ k ∧ (Tagd w 48 k ∨ Tagd w 22 k ∨ Tagd w 27 k ∨ Tagd w 31 k)
def Kx (B : Nat) (w w' : World) : Prop := Keeps (KxS B w) w w'
theorem Kx.refl (B : Nat) (w : World) : Kx B w w := Keeps.refl _ _
theorem Kx.trans {B : Nat} {a b c : World} (h : Kx B a b) (k : Kx B b c) : Kx B a c := by
  refine ⟨k.os.trans h.os, k.tape.trans h.tape, k.output.trans h.output, Nat.le_trans h.size k.size, fun i hi hn => ?_⟩
  have e := h.block i hi hn
  refine (k.block i (Nat.lt_of_lt_of_le hi h.size) (fun hs => hn ?_)).trans e
  obtain ⟨h0, hs⟩ := hs
  have tg : ∀ t, Tagd b t i → Tagd a t i := fun t ⟨cur, hc⟩ => ⟨cur, e.symm.trans hc⟩
  exact ⟨h0, hs.imp (tg _) (fun h => h.imp (tg _) (fun h => h.imp (tg _) (tg _)))⟩
theorem Kx.of_below {B : Nat} {w w' : World} (h : Below w.heap.size w w') : Kx B w w' := Keeps.of_below h
theorem Kx.below {B : Nat} {w w' : World} (h : Kx B w w') (hB : B ≤ w.heap.size) : Below B w w' := Keeps.below h hB (fun k hk e => e.1)
/-- a block of another type stays -/
theorem Kx.tagged {B : Nat} {w w' : World} (h : Kx B w w') {t : TypeId} {g : Nat} (hg : Tagd w t g) (h1 : t ≠ 48) (h2 : t ≠ 22) (h3 : t ≠ 27) (h4 : t ≠ 31) : ¬ KxS B w g := by
  rintro ⟨_, h | h | h | h⟩
  · exact hg.ne h h1
  · exact hg.ne h h2
  · exact hg.ne h h3
  · exact hg.ne h h4
theorem OwnL.kx {B b : Nat} {w w' : World} {v : Value} {xs : List L6} (h : OwnL w b v xs) (k : Kx B w w') : OwnL w' b v xs := h.keeps k (fun i hi => k.tagged (h.tagB i hi) (by decide) (by decide) (by decide) (by decide))
theorem OwnU.kx {B b : Nat} {w w' : World} {v : Value} {x : TM} (h : OwnU w b v x) (k : Kx B w w') : OwnU w' b v x := h.keeps k (fun i hi => k.tagged (h.tagB i hi) (by decide) (by decide) (by decide) (by decide))
theorem Row6.kx {B g : Nat} {w w' : World} {L : List L6} (h : Row6 w g L) (k : Kx B w w') : Row6 w' g L := (k.block g h.lt (k.tagged ⟨_, h⟩ (by decide) (by decide) (by decide) (by decide))).trans h
/-- the two books -/
def TwoU (B kt : Nat) (w : World) : Prop := B ≤ kt ∧ ∃ lv wv held E, BkU w B kt lv wv held E ∧ E.length ≤ 4000
def TwoL (B kl : Nat) (w : World) : Prop := B ≤ kl ∧ ∃ lv wv held E, BkL w B kl lv wv held E ∧ E.length ≤ 4000
theorem BkU.keeps {S : Nat → Prop} {w w' : World} {B kt : Nat} {lv wv : Value} {held : Int} {E : List EntU} (h : BkU w B kt lv wv held E) (k : Keeps S w w') (hS : ∀ i t, S i → Tagd w t i → t ≠ 48 ∧ t ≠ 27 ∧ t ≠ 40) : BkU w' B kt lv wv held E := by
  refine ⟨(k.block kt h.lt (fun hs => (hS _ _ hs ⟨_, h.blk⟩).2.1 rfl)).trans h.blk, h.lrow.keeps k (fun i hi hs => (hS _ _ hs (h.lrow.tag i hi)).1 rfl), h.wrow.keeps k (fun i hi hs => (hS _ _ hs (h.wrow.tag i hi)).1 rfl), h.ne, fun x hx => ?_, h.nodup⟩
  have := h.ents x hx
  exact ⟨this.l.keeps k (fun i hi hs => (hS _ _ hs (this.l.tagB i hi)).2.2 rfl), this.w.keeps k (fun i hi hs => (hS _ _ hs (this.w.tagB i hi)).2.2 rfl), this.sm⟩
theorem BkL.keeps {S : Nat → Prop} {w w' : World} {B kt : Nat} {lv wv : Value} {held : Int} {E : List EntL} (h : BkL w B kt lv wv held E) (k : Keeps S w w') (hS : ∀ i t, S i → Tagd w t i → t ≠ 22 ∧ t ≠ 31 ∧ t ≠ 34) : BkL w' B kt lv wv held E := by
  refine ⟨(k.block kt h.lt (fun hs => (hS _ _ hs ⟨_, h.blk⟩).2.1 rfl)).trans h.blk, h.lrow.keeps k (fun i hi hs => (hS _ _ hs (h.lrow.tag i hi)).1 rfl), h.wrow.keeps k (fun i hi hs => (hS _ _ hs (h.wrow.tag i hi)).1 rfl), h.ne, fun x hx => ?_, h.nodup⟩
  have := h.ents x hx
  exact ⟨this.l.keeps k (fun i hi hs => (hS _ _ hs (this.l.tagB i hi)).2.2 rfl), this.w.keeps k (fun i hi hs => (hS _ _ hs (this.w.tagB i hi)).2.2 rfl), this.sm⟩
theorem TwoU.below {B kt : Nat} {w w' : World} (h : TwoU B kt w) (hb : Below w.heap.size w w') : TwoU B kt w' := by
  obtain ⟨h0, lv, wv, held, E, hk, hl⟩ := h
  exact ⟨h0, lv, wv, held, E, hk.keeps (S := fun _ => False) (Keeps.of_below hb) (fun _ _ e => e.elim), hl⟩
theorem TwoL.below {B kt : Nat} {w w' : World} (h : TwoL B kt w) (hb : Below w.heap.size w w') : TwoL B kt w' := by
  obtain ⟨h0, lv, wv, held, E, hk, hl⟩ := h
  exact ⟨h0, lv, wv, held, E, hk.keeps (S := fun _ => False) (Keeps.of_below hb) (fun _ _ e => e.elim), hl⟩
theorem tag_same {w : World} {t t' : TypeId} {k : Nat} (h : Tagd w t k) (h' : Tagd w t' k) : t = t' := by
  by_cases e : t = t'
  · exact e
  · exact (h.ne h' e).elim
/-- a book whose lists lie below n -/
def TwoUn (B kt n : Nat) (w : World) : Prop := B ≤ kt ∧ ∃ lv wv held E, BkU w B kt lv wv held E ∧ E.length ≤ 4000 ∧ ∀ k ∈ blksU E, k < n
def TwoLn (B kl n : Nat) (w : World) : Prop := B ≤ kl ∧ ∃ lv wv held E, BkL w B kl lv wv held E ∧ E.length ≤ 4000 ∧ ∀ k ∈ blksL E, k < n
theorem TwoU.n {B kt : Nat} {w : World} (h : TwoU B kt w) : TwoUn B kt w.heap.size w := by
  obtain ⟨h0, lv, wv, held, E, hk, hl⟩ := h
  exact ⟨h0, lv, wv, held, E, hk, hl, blksU_lt hk.ents⟩
theorem TwoL.n {B kt : Nat} {w : World} (h : TwoL B kt w) : TwoLn B kt w.heap.size w := by
  obtain ⟨h0, lv, wv, held, E, hk, hl⟩ := h
  exact ⟨h0, lv, wv, held, E, hk, hl, blksL_lt hk.ents⟩
theorem TwoUn.below {B kt n : Nat} {w w' : World} (h : TwoUn B kt n w) (hb : Below w.heap.size w w') : TwoUn B kt n w' := by
  obtain ⟨h0, lv, wv, held, E, hk, hl⟩ := h
  exact ⟨h0, lv, wv, held, E, hk.keeps (S := fun _ => False) (Keeps.of_below hb) (fun _ _ e => e.elim), hl⟩
theorem TwoLn.below {B kt n : Nat} {w w' : World} (h : TwoLn B kt n w) (hb : Below w.heap.size w w') : TwoLn B kt n w' := by
  obtain ⟨h0, lv, wv, held, E, hk, hl⟩ := h
  exact ⟨h0, lv, wv, held, E, hk.keeps (S := fun _ => False) (Keeps.of_below hb) (fun _ _ e => e.elim), hl⟩
theorem TwoLn.keU {B kt kl n : Nat} {w w' : World} (h : TwoLn B kl n w) (ht : Tagd w 27 kt) (k : KeU B kt w w') : TwoLn B kl n w' := by
  obtain ⟨h0, lv, wv, held, E, hk, hl⟩ := h
  refine ⟨h0, lv, wv, held, E, hk.keeps k (fun i t hs hi => ?_), hl⟩
  rcases hs with rfl | ⟨_, hs⟩
  · rw [tag_same hi ht]; decide
  · rw [tag_same hi hs]; decide
theorem TwoU.keL {B kt kl : Nat} {w w' : World} (h : TwoU B kt w) (ht : Tagd w 31 kl) (k : KeL B kl w w') : TwoU B kt w' := by
  obtain ⟨h0, lv, wv, held, E, hk, hl⟩ := h
  refine ⟨h0, lv, wv, held, E, hk.keeps k (fun i t hs hi => ?_), hl⟩
  rcases hs with rfl | ⟨_, hs⟩
  · rw [tag_same hi ht]; decide
  · rw [tag_same hi hs]; decide
theorem KeU.kx {B kt : Nat} {w w' : World} (k : KeU B kt w w') (ht : Tagd w 27 kt) (hB : B ≤ kt) : Kx B w w' := Keeps.mono k (fun i _ hs => by
  rcases hs with rfl | ⟨h0, hs⟩
  · exact ⟨hB, .inr (.inr (.inl ht))⟩
  · exact ⟨h0, .inl hs⟩)
theorem KeL.kx {B kt : Nat} {w w' : World} (k : KeL B kt w w') (ht : Tagd w 31 kt) (hB : B ≤ kt) : Kx B w w' := Keeps.mono k (fun i _ hs => by
  rcases hs with rfl | ⟨h0, hs⟩
  · exact ⟨hB, .inr (.inr (.inr ht))⟩
  · exact ⟨h0, .inr (.inl hs)⟩)
theorem TwoUn.tag {B kt n : Nat} {w : World} (h : TwoUn B kt n w) : Tagd w 27 kt := by
  obtain ⟨_, lv, wv, held, E, hk, _⟩ := h
  exact ⟨_, hk.blk⟩
theorem TwoLn.tag {B kt n : Nat} {w : World} (h : TwoLn B kt n w) : Tagd w 31 kt := by
  obtain ⟨_, lv, wv, held, E, hk, _⟩ := h
  exact ⟨_, hk.blk⟩
/-- a list of tables is kept -/
theorem keepU_two {B kt n : Nat} {w : World} {la : Option Addr} {ln lc : Nat} {x : TM} (h : TwoUn B kt n w) (ho : OwnU w n (.slice la ln lc) x) (hsm : SmU x) (hB : B ≤ n) (hn : n ≤ w.heap.size) : Calls Try.prog 22 #[.pointer (some ⟨kt, 0, none⟩), .slice la ln lc] w fun e w' => e = .returned (.tuple #[]) ∧ TwoU B kt w' ∧ KeU B kt w w' := by
  obtain ⟨h0, lv, wv, held, E, hk, hl, hlt⟩ := h
  refine (bkU_keep hk (ho.weak hB) hsm hsm hl (by omega) (fun k hk hm => by have := hlt k hm; have := (ho.lt k hk).1; omega)).mono ?_
  rintro e w' ⟨rfl, lv', wv', held', E', hk', hl', _, hke⟩
  exact ⟨rfl, ⟨h0, lv', wv', held', E', hk', hl'⟩, hke⟩
/-- a list of leaves is kept -/
theorem keepL_two {B kt n : Nat} {w : World} {la : Option Addr} {ln lc : Nat} {x : List L6} (h : TwoLn B kt n w) (ho : OwnL w n (.slice la ln lc) x) (hsm : SmL x) (hB : B ≤ n) (hn : n ≤ w.heap.size) : Calls Try.prog 23 #[.pointer (some ⟨kt, 0, none⟩), .slice la ln lc] w fun e w' => e = .returned (.tuple #[]) ∧ TwoL B kt w' ∧ KeL B kt w w' := by
  obtain ⟨h0, lv, wv, held, E, hk, hl, hlt⟩ := h
  refine (bkL_keep hk (ho.weak hB) hsm hsm hl (by omega) (fun k hk hm => by have := hlt k hm; have := (ho.lt k hk).1; omega)).mono ?_
  rintro e w' ⟨rfl, lv', wv', held', E', hk', hl', _, hke⟩
  exact ⟨rfl, ⟨h0, lv', wv', held', E', hk', hl'⟩, hke⟩
/-- where the loop of asked stands -/
structure AkI (B kt kl g : Nat) (v wa ra : Value) (xs : List L6) (base : Nat) (w wr : World) : Prop where
  u : TwoU B kt wr
  l : TwoL B kl wr
  full : Row6 wr g (room6 xs)
  rows : ∀ w', Kx B wr w' → Lv w' v xs
  want : OwnU wr 0 wa (bT xs base)
  runs : OwnL wr 0 ra (rT xs)
  size : B ≤ wr.heap.size
  kx : Kx B w wr
theorem AkI.below {B kt kl g : Nat} {v wa ra : Value} {xs : List L6} {base : Nat} {w wr w' : World} (h : AkI B kt kl g v wa ra xs base w wr) (hb : Below wr.heap.size wr w') : AkI B kt kl g v wa ra xs base w w' := by
  have k : Kx B wr w' := Kx.of_below hb
  exact ⟨h.u.below hb, h.l.below hb, h.full.kx k, fun w2 k2 => h.rows w2 (k.trans k2), h.want.kx k, h.runs.kx k, Nat.le_trans h.size hb.size, h.kx.trans k⟩
theorem AkI.inn {B kt kl g : Nat} {v wa ra : Value} {xs : List L6} {base : Nat} {w wr : World} (h : AkI B kt kl g v wa ra xs base w wr) (hn : xs.length ≤ 20000) : Lv wr (.slice (some ⟨g, 0, none⟩) xs.length (xs.length + 80)) xs := by
  have hx : ∀ x ∈ xs, L6.ok x := (h.rows wr (Kx.refl _ _)).choose_spec.choose_spec.2.2.2.1
  have := h.full.rd (n := xs.length) (c := xs.length + 80) (by rw [room6_len]; omega) (by omega) (by unfold maxLen; omega) (by rw [room6, List.take_left]; exact hx)
  rw [room6, List.take_left] at this
  exact this
/-- both lists of a round are kept -/
theorem ak_keep {B kt kl g n : Nat} {v wa ra : Value} {xs : List L6} {base : Nat} {w w6 w7 : World} (h : AkI B kt kl g v wa ra xs base w w6) (hl : TwoLn B kl n w6) (hu : TwoUn B kt n w6) (ht : TwoU B kt w7) (hk : KeU B kt w6 w7) : TwoLn B kl n w7 ∧ Kx B w6 w7 := ⟨hl.keU hu.tag hk, hk.kx hu.tag hu.1⟩
theorem ak_end {B kt kl g n : Nat} {v wa ra : Value} {xs : List L6} {base : Nat} {w w6 w7 w8 : World} (h : AkI B kt kl g v wa ra xs base w w6) (hk7 : Kx B w6 w7) (ht : TwoU B kt w7) (hl7 : TwoLn B kl n w7) (hl : TwoL B kl w8) (hk : KeL B kl w7 w8) : AkI B kt kl g v wa ra xs base w w8 := by
  have k : Kx B w6 w8 := hk7.trans (hk.kx hl7.tag hl7.1)
  exact ⟨ht.keL hl7.tag hk, hl, h.full.kx k, fun w2 k2 => h.rows w2 (k.trans k2), h.want.kx k, h.runs.kx k, Nat.le_trans h.size k.size, h.kx.trans k⟩
set_option maxRecDepth 100000 in
set_option maxHeartbeats 8000000 in
theorem asked_any {w : World} {v : Value} {xs : List L6} {base B kt kl : Nat} (hu : TwoU B kt w) (hl : TwoL B kl w) (hB : B ≤ w.heap.size) (hv : ∀ w', Kx B w w' → Lv w' v xs) (hn : xs.length ≤ 20000) (hb : base ≤ 18446744073709551615) :
    Calls Try.prog 4 #[v, .int .u64 (base : Int), .pointer (some ⟨kt, 0, none⟩), .pointer (some ⟨kl, 0, none⟩)] w fun e w' => e = .returned (.bool true) ∧ TwoU B kt w' ∧ TwoL B kl w' ∧ Kx B w w' := by
  have HU : Hid (TwoU B kt w) := hu
  have HL : Hid (TwoL B kl w) := hl
  have HVs : Hid (∀ w', Kx B w w' → Lv w' v xs) := hv
  have HXn : Hid (xs.length ≤ 20000) := hn
  obtain ⟨ao, cap, rfl, q1, q2, _⟩ := hv w (Kx.refl _ _)
  unfold maxLen at q2
  clear hv hu hl
  obtain ⟨n, hxn⟩ : ∃ n, xs.length = n := ⟨_, rfl⟩
  have HN := Lib.hid hxn
  obtain ⟨ck, hck⟩ : ∃ ck : Int, ((countF xs).1 : Int) = ck := ⟨_, rfl⟩
  obtain ⟨ce, hce⟩ : ∃ ce : Int, (countF xs).2 = ce := ⟨_, rfl⟩
  obtain ⟨wy, hwy⟩ : ∃ wy : Int, whyF xs base = wy := ⟨_, rfl⟩
  obtain ⟨tn, htn⟩ : ∃ tn, (bT xs base).1 = tn := ⟨_, rfl⟩
  obtain ⟨rn, hrn⟩ : ∃ rn, (rT xs).length = rn := ⟨_, rfl⟩
  have HRoom := Lib.hid (fun W (hW : Lv W (.slice ao xs.length cap) xs) => roomyL_any hW (by omega))
  have HInt := Lib.hid (fun W g (hr : Row6 W g (room6 xs)) (hW : Lv W (.slice ao xs.length cap) xs) => intactL_any hr hW (by omega))
  have HC := Lib.hid (fun W u (hW : Lv W u xs) => count_any hW)
  have HCr := Lib.hid (fun W u (hW : Lv W u xs) => rcount_any hW)
  have HBd := Lib.hid (fun W u (hW : Lv W u xs) => build_both hW hb)
  have HBr := Lib.hid (fun W u (hW : Lv W u xs) => rbuild_both hW hb)
  have HRn := Lib.hid (fun W u (hW : Lv W u xs) => runs_both hW hn)
  have HRr := Lib.hid (fun W u (hW : Lv W u xs) => rruns_both hW hn)
  have HInn := Lib.hid (fun (g : Nat) (wa ra : Value) (w wr : World) (h : AkI B kt kl g (.slice ao xs.length cap) wa ra xs base w wr) => h.inn hn)
  rw [hxn] at HRoom HInt q1 hn HVs HInn
  rw [hck, hce] at HC HCr
  rw [hwy, htn] at HBd HBr
  rw [hrn] at HRn HRr
  rw [hxn]
  have HSu := Lib.hid (bT_sm xs base)
  have HSl := Lib.hid (rT_sm HXn.out)
  clear hck hce hwy htn hrn hxn hb
  have i1 : (n : Int) ≤ ((n + 80 : Nat) : Int) := by omega
  have i2 : (n : Int) ≤ (n : Int) + 80 := by omega
  have i3 : n ≤ n + 80 := by omega
  go_enter Try.func4, Try.ntmps4
  go_wp2_with fail
  refine (HRoom.out _ (HVs.out _ (Kx.refl _ _))).mono ?_
  rintro e w1 ⟨g, hg, rfl, hr1, hb1⟩
  have HR1 : Hid (Row6 w1 g (room6 xs)) := hr1
  have HB1 : Hid (Below w.heap.size w w1) := hb1
  clear hr1 hb1 hg HRoom
  go_wp2_with fail
  refine (HCr.out _ _ (HVs.out _ (Kx.of_below HB1.out))).mono ?_
  rintro e w2 ⟨rfl, hb2⟩
  have HB2 : Hid (Below w.heap.size w w2) := HB1.out.trans (hb2.mono HB1.out.size)
  have HR2 : Hid (Row6 w2 g (room6 xs)) := HR1.out.below hb2
  clear hb2 HB1 HR1 HCr
  go_wp2_with fail
  refine (HBr.out _ _ (HVs.out _ (Kx.of_below HB2.out))).mono ?_
  rintro e w3 ⟨wa, wc, rfl, ho3, hb3⟩
  have HB3 : Hid (Below w.heap.size w w3) := HB2.out.trans (hb3.mono HB2.out.size)
  have HR3 : Hid (Row6 w3 g (room6 xs)) := HR2.out.below hb3
  have HO3 : Hid (OwnU w3 0 (.slice wa tn wc) (bT xs base)) := ho3.weak (Nat.zero_le _)
  clear hb3 ho3 HB2 HR2 HBr
  go_wp2_with fail
  refine (HRr.out _ _ (HVs.out _ (Kx.of_below HB3.out))).mono ?_
  rintro e w4 ⟨ra, rc, rfl, ho4, hb4⟩
  have HI4 : Hid (AkI B kt kl g (.slice ao n cap) (.slice wa tn wc) (.slice ra rn rc) xs base w w4) := by
    have hb : Below w.heap.size w w4 := HB3.out.trans (hb4.mono HB3.out.size)
    have k : Kx B w w4 := Kx.of_below hb
    exact ⟨HU.out.below hb, HL.out.below hb, HR3.out.below hb4, fun w2 k2 => HVs.out w2 (k.trans k2), HO3.out.kx (B := B) (Kx.of_below hb4), ho4.weak (Nat.zero_le _), Nat.le_trans hB k.size, k⟩
  clear hb4 ho4 HB3 HR3 HO3 HRr HU HL HVs
  go_wp2_with fail
  go_loopw [16] (fun iv wr => ∃ i : Nat, i ≤ 2 ∧ iv = .int .i64 (i : Int) ∧ Hid (AkI B kt kl g (.slice ao n cap) (.slice wa tn wc) (.slice ra rn rc) xs base w wr)) (fun iv _ => 2 - (intOf iv).toNat)
  case atStart => exact ⟨0, by omega, rfl, HI4⟩
  case round =>
    clear HI4
    obtain ⟨i, hi, rfl, HI⟩ := hrel
    by_cases hin : i < 2
    · have ji : (i : Int) < 2 := by omega
      have hw1 : IntKind.i64.wrap ((i : Int) + 1) = ((i + 1 : Nat) : Int) := by rw [IntKind.wrap_i64]; omega
      have HUn : Hid (TwoUn B kt wr.heap.size wr) := HI.out.u.n
      have HLn : Hid (TwoLn B kl wr.heap.size wr) := HI.out.l.n
      go_wp2_with fail
      refine (HC.out _ _ (HInn.out _ _ _ _ _ HI.out)).mono ?_
      rintro e w5 ⟨rfl, hb5⟩
      have HB5 : Hid (Below wr.heap.size wr w5) := hb5
      clear hb5
      go_wp2_with fail
      refine (HBd.out _ _ (HInn.out _ _ _ _ _ (HI.out.below HB5.out))).mono ?_
      rintro e w6 ⟨ba, bc, rfl, ho6, hb6⟩
      have HO6 : Hid (OwnU w6 wr.heap.size (.slice ba tn bc) (bT xs base)) := ho6.weak HB5.out.size
      have HB6 : Hid (Below wr.heap.size wr w6) := HB5.out.trans (hb6.mono HB5.out.size)
      clear ho6 hb6 HB5
      go_wp2_with fail
      refine (HRn.out _ _ (HInn.out _ _ _ _ _ (HI.out.below HB6.out))).mono ?_
      rintro e w7 ⟨pa, pc, rfl, ho7, hb7⟩
      have HO7 : Hid (OwnL w7 wr.heap.size (.slice pa rn pc) (rT xs)) := ho7.weak HB6.out.size
      have HU7 : Hid (OwnU w7 wr.heap.size (.slice ba tn bc) (bT xs base)) := HO6.out.kx (B := B) (Kx.of_below hb7)
      have HB7 : Hid (Below wr.heap.size wr w7) := HB6.out.trans (hb7.mono HB6.out.size)
      clear ho7 hb7 HB6 HO6
      go_wp2_with fail
      refine (sameU_any HU7.out (HI.out.below HB7.out).want HSu.out).mono ?_
      rintro e w8 ⟨rfl, hb8⟩
      have HO8 : Hid (OwnL w8 wr.heap.size (.slice pa rn pc) (rT xs)) := HO7.out.below hb8
      have HU8 : Hid (OwnU w8 wr.heap.size (.slice ba tn bc) (bT xs base)) := HU7.out.kx (B := B) (Kx.of_below hb8)
      have HB8 : Hid (Below wr.heap.size wr w8) := HB7.out.trans (hb8.mono HB7.out.size)
      clear hb8 HB7 HO7 HU7
      go_wp2_with fail
      refine (sameL_any HO8.out (HI.out.below HB8.out).runs HSl.out).mono ?_
      rintro e w9 ⟨rfl, hb9⟩
      have HO9 : Hid (OwnL w9 wr.heap.size (.slice pa rn pc) (rT xs)) := HO8.out.below hb9
      have HU9 : Hid (OwnU w9 wr.heap.size (.slice ba tn bc) (bT xs base)) := HU8.out.kx (B := B) (Kx.of_below hb9)
      have HB9 : Hid (Below wr.heap.size wr w9) := HB8.out.trans (hb9.mono HB8.out.size)
      clear hb9 HB8 HO8 HU8
      go_wp2_with fail
      refine (HInt.out _ _ (HI.out.below HB9.out).full ((HI.out.below HB9.out).rows _ (Kx.refl _ _))).mono ?_
      rintro e wA ⟨rfl, hbA⟩
      have HOA : Hid (OwnL wA wr.heap.size (.slice pa rn pc) (rT xs)) := HO9.out.below hbA
      have HUA : Hid (OwnU wA wr.heap.size (.slice ba tn bc) (bT xs base)) := HU9.out.kx (B := B) (Kx.of_below hbA)
      have HBA : Hid (Below wr.heap.size wr wA) := HB9.out.trans (hbA.mono HB9.out.size)
      have HIA := Lib.hid (HI.out.below HBA.out)
      have HUnA : Hid (TwoUn B kt wr.heap.size wA) := HUn.out.below HBA.out
      have HLnA : Hid (TwoLn B kl wr.heap.size wA) := HLn.out.below HBA.out
      clear hbA HB9 HO9 HU9 HUn HLn
      go_wp2_with fail
      refine (keepU_two HUnA.out HUA.out HSu.out HI.out.size HBA.out.size).mono ?_
      rintro e wB ⟨rfl, htB, hkB⟩
      have HTB : Hid (TwoU B kt wB) := htB
      have HKB := Lib.hid (ak_keep HIA.out HLnA.out HUnA.out htB hkB)
      have HOB : Hid (OwnL wB wr.heap.size (.slice pa rn pc) (rT xs)) := HOA.out.kx HKB.out.2
      clear htB hkB HOA HUA
      go_wp2_with fail
      refine (keepL_two HKB.out.1 HOB.out HSl.out HI.out.size (Nat.le_trans HBA.out.size HKB.out.2.size)).mono ?_
      rintro e wC ⟨rfl, htC, hkC⟩
      have HIC := Lib.hid (ak_end HIA.out HKB.out.2 HTB.out HKB.out.1 htC hkC)
      clear htC hkC
      go_wp2_with fail
      go_roundw
      case rel => exact ⟨i + 1, by omega, rfl, HIC⟩
      case measure => simp [intOf]; omega
    · have ji : ¬ (i : Int) < 2 := by omega
      go_wp2_with fail
      go_ret
      exact ⟨rfl, HI.out.u, HI.out.l, HI.out.kx⟩
end Go.Proofs.Ytgjamnhepbblhaa
