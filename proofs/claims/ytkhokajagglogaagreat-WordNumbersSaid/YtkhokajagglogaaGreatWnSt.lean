/- WordNumbers: the book between two calls; bytes turned over. Own work. -/
import Derived.Test.YtkhokajagglogaaGreatWnMk
import Derived.Test.YtkhokajagglogaaGreatBkMark
namespace Go.Proofs.YtkhokajagglogaaGreat
open Go.RowKit Go.Shelf
theorem Ent.ok.keeps {S : Nat → Prop} {w w' : World} {base : Nat} {x : Ent} (h : x.ok w base) (hk : Keeps S w w') (hn : ∀ k ∈ x.bl, ¬ S k) : x.ok w' base :=
  ⟨h.l.keeps hk (fun k e => hn k (by simp [Ent.bl, e])), h.w.keeps hk (fun k e => hn k (by simp [Ent.bl, e])), h.sm⟩
theorem Bk.keeps {S : Nat → Prop} {w w' : World} {base kb : Nat} {lv wv : Value} {held : Int} {E : List Ent} (h : Bk w base kb lv wv held E) (hk : Keeps S w w') (h0 : ¬ S kb) (h1 : ∀ k, lv.ownBlock = some k → ¬ S k) (h2 : ∀ k, wv.ownBlock = some k → ¬ S k) (h3 : ∀ k ∈ blks E, ¬ S k) : Bk w' base kb lv wv held E :=
  ⟨(hk.block kb h.lt h0).trans h.blk, h.lrow.keeps hk h1, h.wrow.keeps hk h2, h.ne, fun x hx => (h.ents x hx).keeps hk (fun k hk' => h3 k (List.mem_flatMap.2 ⟨x, hx, hk'⟩)), h.nodup⟩
/-- what a block is tagged with -/
def Tg (w : World) (k : Nat) (t : TypeId) : Prop := ∃ cur, w.heap[k]? = some (.cells cur t (0, 0))
theorem Tg.ne {w : World} {k : Nat} {t t' : TypeId} (h : Tg w k t) (h' : Tg w k t') (hn : t ≠ t') : False := by
  obtain ⟨c, hc⟩ := h
  obtain ⟨d, hd⟩ := h'
  rw [hc] at hd
  simp only [Option.some.injEq, Obj.cells.injEq] at hd
  exact hn hd.2.1
theorem Row.tagB {w : World} {g : Nat} {L : List Nat} (h : Row w g L) : Tg w g 5 := ⟨_, h⟩
/-- the book between two calls; no block of F is a list's of it -/
structure Nb (w0 : World) (kb : Nat) (F : Nat → Prop) (w : World) : Prop where
  below : Below w0.heap.size w0 w
  ge : w0.heap.size ≤ kb
  two : ∃ lv wv held E, Bk w w0.heap.size kb lv wv held E ∧ E.length ≤ 4000 ∧ ∀ k ∈ blks E, ¬ F k
theorem Nb.size {w0 w : World} {kb : Nat} {F : Nat → Prop} (h : Nb w0 kb F w) : w0.heap.size ≤ w.heap.size := h.below.size
theorem Nb.sub {w0 w : World} {kb : Nat} {F F' : Nat → Prop} (h : Nb w0 kb F w) (hs : ∀ k, F' k → F k) : Nb w0 kb F' w := by
  obtain ⟨l2, v2, d2, E2, b2, n2, p2⟩ := h.two
  exact ⟨h.below, h.ge, ⟨l2, v2, d2, E2, b2, n2, fun k hk hf => p2 k hk (hs k hf)⟩⟩
theorem Nb.fresh {w0 w : World} {kb : Nat} {F : Nat → Prop} (h : Nb w0 kb F w) : Nb w0 kb (fun k => w.heap.size ≤ k) w := by
  obtain ⟨l2, v2, d2, E2, b2, n2, p2⟩ := h.two
  exact ⟨h.below, h.ge, ⟨l2, v2, d2, E2, b2, n2, fun k hk hf => absurd (blks_lt b2.ents k hk) (by omega)⟩⟩
theorem Nb.also {w0 w : World} {kb : Nat} {F : Nat → Prop} (h : Nb w0 kb F w) : Nb w0 kb (fun k => F k ∨ w.heap.size ≤ k) w := by
  obtain ⟨l2, v2, d2, E2, b2, n2, p2⟩ := h.two
  refine ⟨h.below, h.ge, ⟨l2, v2, d2, E2, b2, n2, fun k hk hf => ?_⟩⟩
  rcases hf with hf | hf
  · exact p2 k hk hf
  · exact absurd (blks_lt b2.ents k hk) (by omega)
theorem Nb.of_below {w0 w w' : World} {kb : Nat} {F : Nat → Prop} (h : Nb w0 kb F w) (k : Below w.heap.size w w') : Nb w0 kb F w' := by
  obtain ⟨l2, v2, d2, E2, b2, n2, p2⟩ := h.two
  have k0 : Keeps (fun _ => False) w w' := Keeps.of_below k
  exact ⟨h.below.trans (k0.below h.size (fun _ _ e => e.elim)), h.ge, ⟨l2, v2, d2, E2, b2.keeps k0 id (fun _ _ => id) (fun _ _ => id) (fun _ _ => id), n2, p2⟩⟩
/-- a row of bytes that is none of the book's is written -/
theorem Nb.write {w0 w : World} {kb g i : Nat} {F : Nat → Prop} {u : Value} {L : List Nat} (h : Nb w0 kb F w) (hr : Row w g L) (hg : w0.heap.size ≤ g) (hF : F g) : Nb w0 kb F (w.setCell ⟨g, i, none⟩ u) := by
  obtain ⟨l2, v2, d2, E2, b2, n2, p2⟩ := h.two
  have k := Keeps.setCell w g i u
  have tg : Tg w g 5 := hr.tagB
  refine ⟨h.below.trans (k.below h.size (fun i _ e => by subst e; exact hg)), h.ge, ⟨l2, v2, d2, E2, b2.keeps k ?_ ?_ ?_ ?_, n2, p2⟩⟩
  · rintro rfl; exact Tg.ne tg ⟨_, b2.blk⟩ (by decide)
  · rintro i hi rfl; exact Tg.ne tg (b2.lrow.tag _ hi) (by decide)
  · rintro i hi rfl; exact Tg.ne tg (b2.wrow.tag _ hi) (by decide)
  · rintro i hi rfl; exact p2 _ hi hF
/-- a list is kept; other lists stay as they are -/
theorem Nb.keepB {w0 w : World} {kb b : Nat} {F : Nat → Prop} {la : Option Addr} {ln lc : Nat} {xs : List Nat} (h : Nb w0 kb F w) (hl : Own w b (.slice la ln lc) xs) (hb : w0.heap.size ≤ b) (hxs : xs.length ≤ 140737488351232) (hsm : ∀ z ∈ xs, z < 256) (hf : ∀ k, (Value.slice la ln lc).ownBlock = some k → F k) :
    Calls Tryz.prog 26 #[.pointer (some ⟨kb, 0, none⟩), .slice la ln lc] w fun e w' => e = .returned (.tuple #[]) ∧ Nb w0 kb (fun k => F k ∧ (Value.slice la ln lc).ownBlock ≠ some k ∧ k < w.heap.size) w' ∧ (∀ b v xs, Own w b v xs → Own w' b v xs) ∧ (∀ g L, Row w g L → Row w' g L) ∧ w.heap.size ≤ w'.heap.size := by
  obtain ⟨l2, v2, d2, E2, b2, n2, p2⟩ := h.two
  refine (bk_keep b2 (Own.weak hl hb) hxs hsm n2 h.size (fun k hk hm => p2 k hm (hf k hk))).mono ?_
  rintro e w' ⟨rfl, lv', wv', d', E', b', n', hE', ke⟩
  have t1 : Tg w kb 28 := ⟨_, b2.blk⟩
  refine ⟨rfl, ⟨h.below.trans (Keeps.below ke h.size ?_), h.ge, ⟨lv', wv', d', E', b', n', ?_⟩⟩, fun b v xs ho => ho.ke b2.blk ke, fun g L hr => hr.keeps ke ?_, Keeps.size ke⟩
  · rintro i _ (rfl | ⟨h', _⟩)
    · exact h.ge
    · exact h'
  · rintro k hk ⟨h1, h2, h3⟩
    rcases hE' k hk with h' | h' | h'
    · exact p2 k h' h1
    · exact h2 h'
    · omega
  · rintro (rfl | ⟨_, h'⟩)
    · exact Tg.ne t1 hr.tagB (by decide)
    · exact Tg.ne h' hr.tagB (by decide)
/-- the end -/
theorem Nb.apart {w0 w : World} {kb : Nat} {F : Nat → Prop} (h : Nb w0 kb F w) :
    Calls Tryz.prog 19 #[.pointer (some ⟨kb, 0, none⟩), .func (.func 20) #[] #[]] w fun e w' => e = .returned (.bool true) ∧ Below w0.heap.size w0 w' := by
  obtain ⟨l2, v2, d2, E2, b2, n2, p2⟩ := h.two
  refine (bk_apart b2 n2).mono ?_
  rintro e w' ⟨rfl, k⟩
  refine ⟨rfl, h.below.trans (k.below h.size ?_)⟩
  rintro i _ (rfl | ⟨e, he, hi⟩)
  · exact h.ge
  · exact ((b2.ents e he).l.lt i hi).1
theorem sl_drop {w : World} {g c k : Nat} {A B : List Nat} (h : Sl w (.slice (some ⟨g, 0, none⟩) (A.length + k) c) (A ++ B)) (hk : B.length = k) : Sl w (.slice (some ⟨g, A.length, none⟩) k (c - A.length)) B := by
  obtain ⟨ao, cap, e, h1, h2, h3, h4, h5⟩ := h
  simp only [Value.slice.injEq] at e
  obtain ⟨rfl, e2, rfl⟩ := e
  rw [List.length_append] at h1
  refine ⟨some ⟨g, A.length, none⟩, c - A.length, by rw [hk], by omega, by omega, fun z hz => h3 z (List.mem_append_right _ hz), (fun e => by cases e), fun i hi => ⟨g, A.length, rfl, ?_⟩⟩
  obtain ⟨b, o, e, hc⟩ := h5 (A.length + i) (by rw [List.length_append]; omega)
  cases e
  rw [Nat.zero_add] at hc
  rw [hc, List.getD_eq_getElem?_getD, List.getElem?_append_right (by omega), Nat.add_sub_cancel_left, ← List.getD_eq_getElem?_getD]
/-- the number that the first bytes are -/
def getN (m : Nat) (zs : List Nat) : Nat × Bool := if m ≤ zs.length then (Pl.num m zs, true) else (0, false)
theorem getN_le {m : Nat} {zs : List Nat} (hm : m ≤ 8) (h : ∀ z ∈ zs, z < 256) : (getN m zs).1 ≤ gN m := by
  unfold getN
  split
  · have := Pl.acc_lt h 0 m
    have := gN_pow m hm
    show Pl.acc zs 0 m ≤ _
    omega
  · exact Nat.zero_le _
theorem rNumber_any {s : Nat} {zs : List Nat} {v : Value} {w : World} (hs : s ≤ 8) (hv : Sl w v zs) (h0 : 0 < s) :
    Calls Tryz.prog 28 #[v, .int .i64 (s : Int)] w fun e w' => e = .returned (.tuple #[.int .u64 ((getN s zs).1 : Nat), .bool (getN s zs).2]) ∧ w' = w := by
  by_cases h : s ≤ zs.length
  · rw [show getN s zs = (Pl.num s zs, true) from if_pos h]
    exact rNumber_yes hs hv h h0
  · rw [show getN s zs = (0, false) from if_neg h]
    exact rNumber_no hv (by omega)
theorem xor_ones (n m : Nat) (h : m < 2 ^ n) : m ^^^ (2 ^ n - 1) = 2 ^ n - 1 - m := by
  have e1 : (~~~ (BitVec.ofNat n m)).toNat = 2 ^ n - 1 - m := by rw [BitVec.toNat_not, BitVec.toNat_ofNat, Nat.mod_eq_of_lt h]
  rw [BitVec.not_def, BitVec.toNat_xor, BitVec.toNat_allOnes, BitVec.toNat_ofNat, Nat.mod_eq_of_lt h, Nat.xor_comm] at e1
  exact e1
theorem gN_two : ∀ s, s ≤ 8 → gN s = 2 ^ (8 * s) - 1 ∧ gN s + 1 = 2 ^ (8 * s) := by decide
theorem xor_gN {s m : Nat} (hs : s ≤ 8) (h : m ≤ gN s) : bits .xor .u64 (m : Int) (gN s : Int) = ((gN s - m : Nat) : Int) := by
  have hg := gN_le s hs
  have e := u64_xor_nat m (gN s) (by omega) (by omega)
  rw [e]
  have ⟨h1, h2⟩ := gN_two s hs
  have := xor_ones (8 * s) m (by omega)
  rw [← h1] at this
  rw [this]
theorem xor_ff {z : Nat} (h : z < 256) : bits .xor .u8 (z : Int) 255 = ((255 - z : Nat) : Int) := by
  have e : bits .xor .u8 (z : Int) ((255 : Nat) : Int) = ((z ^^^ 255 : Nat) : Int) := u8_xor_nat z 255 h (by decide)
  have x := xor_ones 8 z (by omega)
  rw [show (2 : Nat) ^ 8 - 1 = 255 from rfl] at x
  rw [x] at e
  exact e
def flip (p : List Nat) : List Nat := p.map (255 - ·)
theorem flip_small (p : List Nat) : ∀ z ∈ flip p, z < 256 := fun z hz => by
  obtain ⟨y, _, rfl⟩ := List.mem_map.1 hz
  omega
theorem acc_flip (p : List Nat) (h : ∀ z ∈ p, z < 256) : ∀ (m k : Nat), k + m ≤ p.length → Pl.acc (flip p) k m + Pl.acc p k m = gN m
  | 0, k, _ => rfl
  | m + 1, k, hk => by
    have ih := acc_flip p h m (k + 1) (by omega)
    show (flip p).getD k 0 + 256 * Pl.acc (flip p) (k + 1) m + (p.getD k 0 + 256 * Pl.acc p (k + 1) m) = gN m * 256 + 255
    have hz := h p[k] (List.getElem_mem (by omega))
    have e1 : p.getD k 0 = p[k] := by rw [List.getD_eq_getElem?_getD, List.getElem?_eq_getElem (by omega)]; rfl
    have e2 : (flip p).getD k 0 = 255 - p[k] := by rw [List.getD_eq_getElem?_getD, flip, List.getElem?_map, List.getElem?_eq_getElem (by omega)]; rfl
    rw [e1, e2]
    omega
/-- the bytes turned over up to the k-th, room behind them -/
def flipTo (p : List Nat) (k : Nat) : List Nat := flip (p.take k) ++ (p.drop k ++ List.replicate 80 165)
theorem flipTo_zero (p : List Nat) : flipTo p 0 = roomed p 165 := rfl
theorem flipTo_len (p : List Nat) (k : Nat) (hk : k ≤ p.length) : (flipTo p k).length = p.length + 80 := by simp [flipTo, flip]; omega
theorem flipTo_get (p : List Nat) (k : Nat) (hk : k < p.length) : (flipTo p k).getD k 0 = p.getD k 0 := by
  have h1 : (flip (p.take k)).length = k := by simp [flip]; omega
  rw [List.getD_eq_getElem?_getD, List.getD_eq_getElem?_getD, flipTo, List.getElem?_append_right (by omega), h1, Nat.sub_self, List.getElem?_append_left (by simp; omega), List.getElem?_drop, Nat.add_zero]
theorem flipTo_set (p : List Nat) (k : Nat) (hk : k < p.length) : (flipTo p k).set k (255 - p.getD k 0) = flipTo p (k + 1) := by
  have h1 : (flip (p.take k)).length = k := by simp [flip]; omega
  have e : p.getD k 0 = p[k] := by rw [List.getD_eq_getElem?_getD, List.getElem?_eq_getElem hk]; rfl
  rw [flipTo, List.set_append_right _ _ (by omega), h1, Nat.sub_self, List.drop_eq_getElem_cons hk, List.cons_append, List.set_cons_zero, flipTo, List.take_succ_eq_append_getElem hk, e, show flip (p.take k ++ [p[k]]) = flip (p.take k) ++ [255 - p[k]] from List.map_append, List.append_assoc]
  rfl
theorem flipTo_end (p : List Nat) : (flipTo p p.length).take p.length = flip p := by
  unfold flipTo
  rw [List.take_length, List.take_append_of_le_length (by simp [flip]), List.take_of_length_le (by simp [flip])]
theorem flipTo_small (p : List Nat) (k : Nat) (h : ∀ z ∈ p, z < 256) : ∀ z ∈ flipTo p k, z < 256 := fun z hz => by
  rcases List.mem_append.1 hz with hz | hz
  · exact flip_small _ z hz
  · rcases List.mem_append.1 hz with hz | hz
    · exact h z (List.mem_of_mem_drop hz)
    · rw [List.eq_of_mem_replicate hz]; decide
/-- what Get answers of the bytes turned over -/
theorem getN_flip {m : Nat} {p : List Nat} (_hm : m ≤ 8) (h : ∀ z ∈ p, z < 256) : getN m (flip p) = if (getN m p).2 = true then (gN m - (getN m p).1, true) else (0, false) := by
  have hl : (flip p).length = p.length := by simp [flip]
  unfold getN
  rw [hl]
  by_cases hc : m ≤ p.length
  · rw [if_pos hc, if_pos hc]
    have := acc_flip p h m 0 (by omega)
    simp only [if_true]
    show (Pl.acc (flip p) 0 m, true) = (gN m - Pl.acc p 0 m, true)
    congr 1
    omega
  · rw [if_neg hc, if_neg hc]
    simp
end Go.Proofs.YtkhokajagglogaaGreat
