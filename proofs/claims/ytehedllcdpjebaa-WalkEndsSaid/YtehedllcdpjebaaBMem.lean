/- The bytes of a machine as a function of the address; pages; the map of pages in memory. Own work. -/
import Derived.Test.YtehedllcdpjebaaBWord
import Derived.Maps.OwnSet
import Derived.Maps.Views
namespace Go.Proofs.Ytehedllcdpjebaa
open Go.RowKit Go.Maps
/-! ### plain -/
def pageOf (M : Nat → Nat) (k : Nat) : List Nat := (List.range 4096).map fun i => M (k * 4096 + i)
def isZ (M : Nat → Nat) (k : Nat) : Prop := ∀ i, i < 4096 → M (k * 4096 + i) = 0
def putAt (M : Nat → Nat) (a : Nat) (zs : List Nat) : Nat → Nat := fun p => if a ≤ p ∧ p < a + zs.length then zs.getD (p - a) 0 else M p
def bytesAt (M : Nat → Nat) (a n : Nat) : List Nat := (List.range n).map fun i => M (a + i)
theorem pageOf_length (M : Nat → Nat) (k : Nat) : (pageOf M k).length = 4096 := by simp [pageOf]
theorem bytesAt_length (M : Nat → Nat) (a n : Nat) : (bytesAt M a n).length = n := by simp [bytesAt]
theorem pageOf_get (M : Nat → Nat) (k i : Nat) (h : i < 4096) : (pageOf M k)[i]? = some (M (k * 4096 + i)) := by
  rw [pageOf, List.getElem?_map, List.getElem?_range h]; rfl
theorem bytesAt_get (M : Nat → Nat) (a n i : Nat) (h : i < n) : (bytesAt M a n)[i]? = some (M (a + i)) := by
  rw [bytesAt, List.getElem?_map, List.getElem?_range h]; rfl
theorem page_ext {L : List Nat} {M : Nat → Nat} {k : Nat} (hl : L.length = 4096) (h : ∀ i, i < 4096 → L[i]? = some (M (k * 4096 + i))) : L = pageOf M k := by
  refine List.ext_getElem? fun i => ?_
  by_cases hi : i < 4096
  · rw [h i hi, pageOf_get M k i hi]
  · rw [List.getElem?_eq_none (by omega), List.getElem?_eq_none (by rw [pageOf_length]; omega)]
theorem bytesAt_ext {L : List Nat} {M : Nat → Nat} {a n : Nat} (hl : L.length = n) (h : ∀ i, i < n → L[i]? = some (M (a + i))) : L = bytesAt M a n := by
  refine List.ext_getElem? fun i => ?_
  by_cases hi : i < n
  · rw [h i hi, bytesAt_get M a n i hi]
  · rw [List.getElem?_eq_none (by omega), List.getElem?_eq_none (by rw [bytesAt_length]; omega)]
theorem putAt_in (M : Nat → Nat) (a : Nat) (zs : List Nat) (i : Nat) (h : i < zs.length) : putAt M a zs (a + i) = zs.getD i 0 := by
  unfold putAt; rw [if_pos (by omega), Nat.add_sub_cancel_left]
theorem putAt_out (M : Nat → Nat) (a : Nat) (zs : List Nat) (p : Nat) (h : p < a ∨ a + zs.length ≤ p) : putAt M a zs p = M p := by
  unfold putAt; rw [if_neg (by omega)]
theorem putAt_nil (M : Nat → Nat) (a : Nat) : putAt M a [] = M := by
  funext p; exact putAt_out M a [] p (by simp; omega)
theorem putAt_append (M : Nat → Nat) (a : Nat) (xs ys : List Nat) : putAt (putAt M a xs) (a + xs.length) ys = putAt M a (xs ++ ys) := by
  funext p
  by_cases h1 : a + xs.length ≤ p ∧ p < a + xs.length + ys.length
  · rw [show putAt (putAt M a xs) (a + xs.length) ys p = ys.getD (p - (a + xs.length)) 0 from if_pos h1]
    rw [show putAt M a (xs ++ ys) p = (xs ++ ys).getD (p - a) 0 from if_pos (by simp; omega)]
    simp only [List.getD_eq_getElem?_getD]
    rw [List.getElem?_append_right (by omega)]
    congr 2
    omega
  · rw [show putAt (putAt M a xs) (a + xs.length) ys p = putAt M a xs p from if_neg h1]
    by_cases h2 : a ≤ p ∧ p < a + xs.length
    · rw [show putAt M a xs p = xs.getD (p - a) 0 from if_pos h2, show putAt M a (xs ++ ys) p = (xs ++ ys).getD (p - a) 0 from if_pos (by simp; omega)]
      simp only [List.getD_eq_getElem?_getD]
      rw [List.getElem?_append_left (by omega)]
    · rw [show putAt M a xs p = M p from if_neg h2, show putAt M a (xs ++ ys) p = M p from if_neg (by simp; omega)]
theorem putAt_small {M : Nat → Nat} {a : Nat} {zs : List Nat} (hM : ∀ p, M p < 256) (hz : ∀ z ∈ zs, z < 256) (p : Nat) : putAt M a zs p < 256 := by
  unfold putAt
  split
  · exact Pl.mem_getD hz
  · exact hM p
theorem page_put_same (M : Nat → Nat) (k o : Nat) (zs : List Nat) (h : o + zs.length ≤ 4096) : (pageOf M k).take o ++ zs ++ (pageOf M k).drop (o + zs.length) = pageOf (putAt M (k * 4096 + o) zs) k := by
  have hl := pageOf_length M k
  refine page_ext (by simp [hl]; omega) fun i hi => ?_
  by_cases h1 : i < o
  · rw [List.append_assoc, List.getElem?_append_left (by simp [hl]; omega), List.getElem?_take_of_lt h1, pageOf_get M k i hi, putAt_out _ _ _ _ (by omega)]
  · by_cases h2 : i < o + zs.length
    · rw [List.getElem?_append_left (by simp [hl]; omega), List.getElem?_append_right (by simp [hl]; omega)]
      rw [show i - ((pageOf M k).take o).length = i - o by simp [hl]; omega]
      rw [show k * 4096 + i = k * 4096 + o + (i - o) by omega, putAt_in _ _ _ _ (by omega), List.getD_eq_getElem?_getD, List.getElem?_eq_getElem (by omega)]
      rfl
    · rw [List.getElem?_append_right (by simp [hl]; omega), List.getElem?_drop]
      rw [show o + zs.length + (i - ((pageOf M k).take o ++ zs).length) = i by simp [hl]; omega]
      rw [pageOf_get M k i hi, putAt_out _ _ _ _ (by omega)]
theorem put_other (M : Nat → Nat) {k k' o : Nat} {zs : List Nat} (h : o + zs.length ≤ 4096) (hk : k' ≠ k) (i : Nat) (hi : i < 4096) : putAt M (k * 4096 + o) zs (k' * 4096 + i) = M (k' * 4096 + i) := by
  refine putAt_out _ _ _ _ ?_
  rcases Nat.lt_or_gt_of_ne hk with h1 | h1 <;> omega
theorem page_congr {M M' : Nat → Nat} {k : Nat} (h : ∀ i, i < 4096 → M' (k * 4096 + i) = M (k * 4096 + i)) : pageOf M' k = pageOf M k :=
  page_ext (pageOf_length _ _) fun i hi => by rw [pageOf_get _ _ _ hi, h i hi]
theorem page_put_other (M : Nat → Nat) {k k' o : Nat} {zs : List Nat} (h : o + zs.length ≤ 4096) (hk : k' ≠ k) : pageOf (putAt M (k * 4096 + o) zs) k' = pageOf M k' := page_congr (put_other M h hk)
theorem isZ_congr {M M' : Nat → Nat} {k : Nat} (h : ∀ i, i < 4096 → M' (k * 4096 + i) = M (k * 4096 + i)) (hz : isZ M k) : isZ M' k := fun i hi => (h i hi).trans (hz i hi)
/-- how many pages hold a byte that is not 0 -/
def nz (M : Nat → Nat) (k : Nat) : Bool := (pageOf M k).any fun z => z != 0
theorem nz_false {M : Nat → Nat} {k : Nat} : nz M k = false ↔ isZ M k := by
  unfold nz
  rw [List.any_eq_false]
  constructor
  · intro h i hi
    have := h _ (List.mem_of_getElem? (pageOf_get M k i hi))
    simpa using this
  · intro h z hz
    obtain ⟨i, hi, e⟩ := List.getElem_of_mem hz
    rw [pageOf_length] at hi
    have := pageOf_get M k i hi
    rw [List.getElem?_eq_getElem (by rw [pageOf_length]; exact hi), e, h i hi] at this
    cases this
    decide
theorem nz_true {M : Nat → Nat} {k : Nat} (h : ¬ isZ M k) : nz M k = true := by
  cases e : nz M k with
  | true => rfl
  | false => exact absurd (nz_false.1 e) h
def cntN (M : Nat → Nat) : Nat → Nat
  | 0 => 0
  | n + 1 => cntN M n + if nz M n then 1 else 0
theorem cntN_congr {M M' : Nat → Nat} (n : Nat) (h : ∀ k, k < n → nz M' k = nz M k) : cntN M' n = cntN M n := by
  induction n with
  | zero => rfl
  | succ n ih => unfold cntN; rw [ih (fun k hk => h k (by omega)), h n (by omega)]
theorem cntN_one {M M' : Nat → Nat} {k : Nat} (n : Nat) (hk : k < n) (h : ∀ j, j ≠ k → nz M' j = nz M j) : cntN M' n + (if nz M k then 1 else 0) = cntN M n + (if nz M' k then 1 else 0) := by
  induction n with
  | zero => omega
  | succ n ih =>
    unfold cntN
    by_cases e : n = k
    · subst e
      rw [cntN_congr n (fun j hj => h j (by omega))]
      omega
    · have := ih (by omega)
      rw [h n e]
      omega
theorem cntN_le (M : Nat → Nat) (n : Nat) : cntN M n ≤ n := by
  induction n with
  | zero => exact Nat.le_refl _
  | succ n ih => unfold cntN; split <;> omega
def pagesN : Nat := 1048576
def cnt (M : Nat → Nat) : Nat := cntN M pagesN
theorem cnt_one {M M' : Nat → Nat} {k : Nat} (hk : k < pagesN) (h : ∀ j, j ≠ k → nz M' j = nz M j) : cnt M' + (if nz M k then 1 else 0) = cnt M + (if nz M' k then 1 else 0) := cntN_one pagesN hk h
theorem cnt_le (M : Nat → Nat) : cnt M ≤ pagesN := cntN_le M pagesN
theorem cntN_zero (n : Nat) : cntN (fun _ => 0) n = 0 := by
  induction n with
  | zero => rfl
  | succ n ih => unfold cntN; rw [ih, nz_false.2 (fun _ _ => rfl)]; rfl
theorem cnt_zero : cnt (fun _ => 0) = 0 := cntN_zero pagesN

/-! ### the map of pages -/
def upd (T : Nat → Option Nat) (k : Nat) (x : Option Nat) : Nat → Option Nat := fun j => if j = k then x else T j
theorem upd_same (T : Nat → Option Nat) (k : Nat) (x : Option Nat) : upd T k x k = x := if_pos rfl
theorem upd_other (T : Nat → Option Nat) {k j : Nat} (x : Option Nat) (h : j ≠ k) : upd T k x j = T j := if_neg h
/-- a pointer to a page's block, read as the block's number -/
def ptrE : Value → Option (DataW Unit × List MemPlace)
  | .pointer none => some (.nil, [])
  | .pointer (some ⟨g, 0, none⟩) => some (.lit (.int .u64 (g : Int)), [])
  | _ => none
theorem ptrE_mk (g : Nat) : ptrE (.pointer (some ⟨g, 0, none⟩)) = some (.lit (.int .u64 (g : Int)), []) := rfl
theorem ptrE_inv {v : Value} {g : Nat} {ps : List MemPlace} (h : ptrE v = some (.lit (.int .u64 (g : Int)), ps)) : v = .pointer (some ⟨g, 0, none⟩) := by
  unfold ptrE at h
  split at h
  · cases h
  · simp only [Option.some.injEq, Prod.mk.injEq, DataW.lit.injEq, Lit.int.injEq, true_and] at h
    have := h.1
    congr 3
    omega
  · cases h
theorem ptrE_none {v : Value} {ps : List MemPlace} (h : ptrE v = some (.nil, ps)) : v = .pointer none := by
  unfold ptrE at h
  split at h
  · rfl
  · cases h
  · cases h
theorem key_page : Keyed Try.prog 24 := int_keyed (q := .u64) Try.underlying24
theorem key_of {k : Nat} (h : k < 4503599627370496) : keyOf Try.prog 24 (.int .u64 (k : Int)) = some (.int .u64 (k : Int)) := keyOf_int_mk Try.underlying24 (WalkArith.wf_u64 ⟨by omega, by omega⟩)
theorem zero_page (w : World) : (zeroValue 122).run Try.prog w = .ok (.pointer none) w := by kernel_rfl
def MapT (w : World) (B : Nat) (T : Nat → Option Nat) (c : Nat) : Prop :=
  ∃ D : DataW Unit, w.ownsMap Try.prog 24 ptrE B c D ∧ Maps.size D = c ∧ (∀ k, k < 4503599627370496 → (T k = none → Maps.has D (.int .u64 (k : Int)) = false) ∧ ∀ g, T k = some g → Maps.has D (.int .u64 (k : Int)) = true ∧ ∀ z, D.atKey (.int .u64 (k : Int)) z = .lit (.int .u64 (g : Int))) ∧ ∀ kl, Maps.has D kl = true → ∃ k : Nat, k < 4503599627370496 ∧ kl = .int .u64 (k : Int)
theorem isKey (k : Nat) : WideAt.IsKeyLit (.int .u64 (k : Int)) := by trivial
theorem lit_ne {k j : Nat} (h : j ≠ k) : (Lit.int .u64 (j : Int)) ≠ .int .u64 (k : Int) := fun e => by
  have := (Lit.int.inj e).2
  omega
theorem World.ownsMap.tight {w : World} {B n : Nat} {D : DataW Unit} (h : w.ownsMap Try.prog 24 ptrE B n D) : w.ownsMap Try.prog 24 ptrE B (Maps.size D) D := by
  obtain ⟨es, clock, hb, F, _, rfl⟩ := h
  refine ⟨es, clock, hb, F, ?_, rfl⟩
  simp [Maps.size, length_sorted]
theorem MapT.keeps {S : Nat → Prop} {w w' : World} {B : Nat} {T : Nat → Option Nat} {c : Nat} (h : MapT w B T c) (hk : Keeps S w w') (hn : ¬ S B) : MapT w' B T c := by
  obtain ⟨D, ⟨es, clock, hb, F, hs, e⟩, h2, h3⟩ := h
  exact ⟨D, ⟨es, clock, (hk.block B (Array.getElem?_eq_some_iff.1 hb).1 hn).trans hb, F, hs, e⟩, h2, h3⟩
theorem MapT.lt {w : World} {B : Nat} {T : Nat → Option Nat} {c : Nat} (h : MapT w B T c) : B < w.heap.size := by
  obtain ⟨D, ho, _⟩ := h
  exact ho.lt
/-- block B is no row -/
theorem MapT.no_row {w : World} {B : Nat} {T : Nat → Option Nat} {c : Nat} (h : MapT w B T c) {cs : Array Value} {t : TypeId} {f : Nat × Nat} : w.heap[B]? ≠ some (.cells cs t f) := by
  obtain ⟨D, ⟨es, clock, hb, _⟩, _⟩ := h
  rw [hb]
  exact fun e => by cases e
theorem MapT.made (w : World) : MapT (w.alloc (.map #[] 0)) w.heap.size (fun _ => none) 0 :=
  ⟨.map [], World.ownsMap_made w _ _ _, rfl, fun k _ => ⟨fun _ => rfl, fun g e => by cases e⟩, fun kl e => by cases (show false = true from e)⟩
theorem MapT.look_some {w : World} {B : Nat} {T : Nat → Option Nat} {c k g : Nat} (h : MapT w B T c) (hk : T k = some g) (hb : k < 4503599627370496) :
    (Instr.lookup 85 (.map (some B)) (.int .u64 (k : Int)) true).run Try.prog w = .ok (.tuple #[.pointer (some ⟨g, 0, none⟩), .bool true]) w := by
  obtain ⟨D, ho, _, h3, _⟩ := h
  obtain ⟨h4, h5⟩ := (h3 k hb).2 g hk
  obtain ⟨v, ps, hr, hv⟩ := ho.look_ok key_page Try.underlying85 (zero_page w) (zd := .nil) (zp := []) rfl (key_of hb)
  rw [h5] at hv
  rw [ptrE_inv hv, h4] at hr
  exact hr
theorem MapT.look_none {w : World} {B : Nat} {T : Nat → Option Nat} {c k : Nat} (h : MapT w B T c) (hk : T k = none) (hb : k < 4503599627370496) :
    (Instr.lookup 85 (.map (some B)) (.int .u64 (k : Int)) true).run Try.prog w = .ok (.tuple #[.pointer none, .bool false]) w := by
  obtain ⟨D, ho, _, h3, _⟩ := h
  have h4 := (h3 k hb).1 hk
  obtain ⟨v, ps, hr, hv⟩ := ho.look_ok key_page Try.underlying85 (zero_page w) (zd := .nil) (zp := []) rfl (key_of hb)
  rw [atKey_of_not_has h4] at hv
  rw [ptrE_none hv, h4] at hr
  exact hr
theorem MapT.len {w : World} {B : Nat} {T : Nat → Option Nat} {c : Nat} (h : MapT w B T c) (ty : TypeId) : (Builtin.len_ #[85] ty #[.map (some B)]).run Try.prog w = .ok (.int .i64 (c : Int)) w := by
  obtain ⟨D, ho, h2, _⟩ := h
  rw [← h2]
  exact ho.len Try.underlying85 ty
theorem MapT.put {w : World} {B : Nat} {T : Nat → Option Nat} {c k : Nat} (h : MapT w B T c) (hk : T k = none) (hb : k < 4503599627370496) (hc : c < maxLen) (g : Nat) :
    ∃ w', (Instr.mapUpdate 85 (.map (some B)) (.int .u64 (k : Int)) (.pointer (some ⟨g, 0, none⟩))).run Try.prog w = .ok () w' ∧ MapT w' B (upd T k (some g)) (c + 1) ∧ w.mapTurned w' B := by
  obtain ⟨D, ho, h2, h3, h6⟩ := h
  have h4 := (h3 k hb).1 hk
  have hi := ho.isMap
  have ht := ho.tidy key_page
  obtain ⟨w', hr, ho', hm⟩ := ho.store key_page Try.underlying85 hc (key_of hb) (ptrE_mk g)
  refine ⟨w', hr, ⟨_, ho', ?_, fun j hj => ?_, fun kl e => ?_⟩, hm⟩
  · rw [size_put ht, h4, h2]; rfl
  · by_cases e : j = k
    · subst e
      rw [upd_same]
      exact ⟨(fun e => by cases e), (fun g' e => by cases e; exact ⟨has_put_same hi (isKey _) _, fun z => atKey_put_same hi (isKey _) _ z⟩)⟩
    · rw [upd_other _ _ e, has_put_other (lit_ne e)]
      exact ⟨(h3 j hj).1, fun g' e' => ⟨((h3 j hj).2 g' e').1, fun z => by rw [atKey_put_other (lit_ne e)]; exact ((h3 j hj).2 g' e').2 z⟩⟩
  · by_cases e' : kl = .int .u64 (k : Int)
    · exact ⟨k, hb, e'⟩
    · rw [has_put_other e'] at e
      exact h6 kl e
theorem MapT.del {w : World} {B : Nat} {T : Nat → Option Nat} {c k g : Nat} (h : MapT w B T (c + 1)) (hk : T k = some g) (hb : k < 4503599627370496) (ty : TypeId) :
    ∃ w', (Builtin.delete_ #[85, 24] ty #[.map (some B), .int .u64 (k : Int)]).run Try.prog w = .ok (.tuple #[]) w' ∧ MapT w' B (upd T k none) c ∧ w.mapTurned w' B := by
  obtain ⟨D, ho, h2, h3, h6⟩ := h
  obtain ⟨h4, h5⟩ := (h3 k hb).2 g hk
  have ht := ho.tidy key_page
  obtain ⟨w', hr, ho', hm⟩ := ho.drop key_page Try.underlying85 (key_of hb) ty
  have hz := size_del (k := .int .u64 (k : Int)) ht
  rw [h4, h2] at hz
  have hz' : Maps.size (D.del (.int .u64 (k : Int))) = c := by simpa using hz
  refine ⟨w', hr, ⟨_, by have := World.ownsMap.tight ho'; rwa [hz'] at this, hz', fun j hj => ?_, fun kl e => ?_⟩, hm⟩
  · by_cases e : j = k
    · subst e
      rw [upd_same]
      exact ⟨fun _ => has_del_same, (fun g' e => by cases e)⟩
    · rw [upd_other _ _ e, has_del_other (lit_ne e)]
      exact ⟨(h3 j hj).1, fun g' e' => ⟨((h3 j hj).2 g' e').1, fun z => by rw [atKey_del_other (lit_ne e)]; exact ((h3 j hj).2 g' e').2 z⟩⟩
  · by_cases e' : kl = .int .u64 (k : Int)
    · subst e'
      rw [has_del_same] at e
      cases e
    · rw [has_del_other e'] at e
      exact h6 kl e
theorem Keeps.turned {w w' : World} {B : Nat} (h : w.mapTurned w' B) : Keeps (fun j => j = B) w w' := by
  have := Keeps.of_grown h.grown
  exact this.mono fun i _ e => (Option.some.inj e).symm

/-! ### pages in memory -/
def Pg (w : World) (g : Nat) (L : List Nat) : Prop := w.heap[g]? = some (.cells (bvs L).toArray 125 (0, 0))
theorem Pg.lt {w : World} {g : Nat} {L : List Nat} (h : Pg w g L) : g < w.heap.size := (Array.getElem?_eq_some_iff.1 h).1
theorem Pg.keeps {S : Nat → Prop} {w w' : World} {g : Nat} {L : List Nat} (h : Pg w g L) (hk : Keeps S w w') (hn : ¬ S g) : Pg w' g L := (hk.block g h.lt hn).trans h
def PagesAt (w : World) (T : Nat → Option Nat) (M : Nat → Nat) : Prop :=
  (∀ k g, T k = some g → Pg w g (pageOf M k) ∧ ¬ isZ M k) ∧ (∀ k, T k = none → isZ M k) ∧ (∀ k k' g, T k = some g → T k' = some g → k = k') ∧ (∀ p, M p < 256) ∧ ∀ k, pagesN ≤ k → T k = none
def Foot (B : Nat) (T : Nat → Option Nat) (j : Nat) : Prop := j = B ∨ ∃ k, T k = some j
/-- block B is the map, T says where its pages lie, M what they hold -/
def Held (w : World) (B : Nat) (T : Nat → Option Nat) (M : Nat → Nat) : Prop := MapT w B T (cnt M) ∧ PagesAt w T M
/-- each page lies where it lay, or in a block from n on -/
def Grows (n : Nat) (T T' : Nat → Option Nat) : Prop := ∀ k g, T' k = some g → T k = some g ∨ n ≤ g
theorem Grows.refl (n : Nat) (T : Nat → Option Nat) : Grows n T T := fun _ _ h => .inl h
theorem Grows.trans {n m : Nat} {T T' T'' : Nat → Option Nat} (h : Grows n T T') (h' : Grows m T' T'') (hn : n ≤ m) : Grows n T T'' := fun k g e => by
  rcases h' k g e with h1 | h1
  · exact h k g h1
  · exact .inr (by omega)
theorem Grows.foot {n B : Nat} {T T' : Nat → Option Nat} (h : Grows n T T') {j : Nat} (hj : Foot B T' j) (hn : j < n) : Foot B T j := by
  rcases hj with rfl | ⟨k, hk⟩
  · exact .inl rfl
  · rcases h k j hk with h1 | h1
    · exact .inr ⟨k, h1⟩
    · omega
theorem PagesAt.keeps {S : Nat → Prop} {w w' : World} {T : Nat → Option Nat} {M : Nat → Nat} (h : PagesAt w T M) (hk : Keeps S w w') (hn : ∀ k g, T k = some g → ¬ S g) : PagesAt w' T M :=
  ⟨fun k g e => ⟨((h.1 k g e).1).keeps hk (hn k g e), (h.1 k g e).2⟩, h.2⟩
theorem Held.keeps {S : Nat → Prop} {w w' : World} {B : Nat} {T : Nat → Option Nat} {M : Nat → Nat} (h : Held w B T M) (hk : Keeps S w w') (hn : ∀ j, Foot B T j → ¬ S j) : Held w' B T M :=
  ⟨h.1.keeps hk (hn B (.inl rfl)), h.2.keeps hk fun k g e => hn g (.inr ⟨k, e⟩)⟩
theorem Held.foot_lt {w : World} {B : Nat} {T : Nat → Option Nat} {M : Nat → Nat} (h : Held w B T M) {j : Nat} (hj : Foot B T j) : j < w.heap.size := by
  rcases hj with rfl | ⟨k, e⟩
  · exact h.1.lt
  · exact ((h.2.1 k j e).1).lt
theorem Held.below {w w' : World} {B : Nat} {T : Nat → Option Nat} {M : Nat → Nat} (h : Held w B T M) (hb : Below w.heap.size w w') : Held w' B T M :=
  h.keeps (Keeps.of_below (S := fun _ => False) hb) fun _ _ h => h
theorem Held.apart {w : World} {B : Nat} {T : Nat → Option Nat} {M : Nat → Nat} (h : Held w B T M) {k g : Nat} (e : T k = some g) : g ≠ B := fun e' => by
  have := (h.2.1 k g e).1
  rw [e'] at this
  exact h.1.no_row this
theorem Held.low {w : World} {B : Nat} {T : Nat → Option Nat} {M : Nat → Nat} (h : Held w B T M) {k g : Nat} (e : T k = some g) : k < pagesN := by
  rcases Nat.lt_or_ge k pagesN with h1 | h1
  · exact h1
  · rw [h.2.2.2.2.2 k h1] at e; cases e
theorem Held.made (w : World) : Held (w.alloc (.map #[] 0)) w.heap.size (fun _ => none) (fun _ => 0) :=
  ⟨by rw [cnt_zero]; exact MapT.made w, fun _ _ e => (by cases e), fun _ _ _ _ => rfl, fun _ _ _ e => (by cases e), fun _ => Nat.zero_lt_succ _, fun _ _ => rfl⟩
end Go.Proofs.Ytehedllcdpjebaa
