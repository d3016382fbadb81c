import Derived.Test.YtlndphdgodmgpaaGreatPkDU8
import Derived.Test.YtlndphdgodmgpaaGreatPkDU16
import Derived.Test.YtlndphdgodmgpaaGreatPkDU64
import Derived.Test.YtlndphdgodmgpaaGreatPkDTy
import Derived.Test.YtlndphdgodmgpaaGreatPkM
/- SpanLaws: the whole. Own work. -/
namespace Go.Proofs.YtlndphdgodmgpaaGreat.SpMain
open Go.RowKit Go.Shelf Go.Proofs.YtlndphdgodmgpaaGreat.Sp Go.Proofs.YtlndphdgodmgpaaGreat.U8
attribute [local go_sem ↓] Go.wp_at_zero Go.wp_at_succ

theorem three_new {W : World} {n : Nat} (hn : W.heap.size = n) (a b c : Value) (t : TypeId) : (W.alloc (.cells #[a, b, c] t)).cell? ⟨n, 0, none⟩ = some a ∧ (W.alloc (.cells #[a, b, c] t)).cell? ⟨n, 1, none⟩ = some b ∧ (W.alloc (.cells #[a, b, c] t)).cell? ⟨n, 2, none⟩ = some c := by
  have e : (W.alloc (.cells #[a, b, c] t)).heap[n]? = some (.cells #[a, b, c] t) := by
    rw [← hn]; exact heap_alloc_new W _
  exact ⟨by rw [cell_of_row _ _ 0 _ _ _ e]; rfl, by rw [cell_of_row _ _ 1 _ _ _ e]; rfl, by rw [cell_of_row _ _ 2 _ _ _ e]; rfl⟩
/-- The six numbers that go first. -/
def six : List Int := [3, 5, 6, 9, 20, 19]
theorem six_ul {W : World} {n : Nat} (hn : W.heap.size = n) (t : TypeId) : UL (W.alloc (.cells #[.int .u64 3, .int .u64 5, .int .u64 6, .int .u64 9, .int .u64 20, .int .u64 19] t)) (.slice (some ⟨n, 0, none⟩) 6 6) six := by
  have e : (W.alloc (.cells #[.int .u64 3, .int .u64 5, .int .u64 6, .int .u64 9, .int .u64 20, .int .u64 19] t)).heap[n]? = some (.cells #[.int .u64 3, .int .u64 5, .int .u64 6, .int .u64 9, .int .u64 20, .int .u64 19] t) := by
    rw [← hn]; exact heap_alloc_new W _
  refine ⟨by decide, some ⟨n, 0, none⟩, 6, rfl, Nat.le_refl _, by simp [maxLen], fun e => (by cases e), fun j hj => ⟨n, 0, rfl, ?_⟩⟩
  rw [Nat.zero_add, cell_of_row _ _ j _ _ _ e]
  match j, hj with
  | 0, _ => rfl
  | 1, _ => rfl
  | 2, _ => rfl
  | 3, _ => rfl
  | 4, _ => rfl
  | 5, _ => rfl
theorem six_in (p : Int) : In p (pairs 255 six) ↔ 3 ≤ p ∧ p ≤ 9 := by
  have e : pairs 255 six = [(3, 5), (6, 9), (20, 19)] := by decide
  rw [e, in_cons, in_cons, in_cons]
  simp only [in_nil, or_false]
  omega
theorem of_newE {W0 W : World} {C : List (Addr × Value)} {L : List Ent} {x y : Int} (hE : Hid (Env W C L)) (h0 : Hid (Below W0.heap.size W0 W)) (hf : Fits 255 [(x, y)]) :
    Calls Tryz.prog 18 #[.slice (some ⟨W.heap.size, 0, none⟩) 1 1] (W.alloc (.cells #[.int .u8 x, .int .u8 y] 54)) (MadeE W0 C L (fun p => x ≤ p ∧ p ≤ y) 1) :=
  of_oneE (hE.out.below ((Below.refl _ _).alloc (Nat.le_refl _) _)) (h0.out.alloc h0.out.size _) (new2 rfl _ _ _).1 (new2 rfl _ _ _).2 hf
theorem pairE {W0 W : World} {C : List (Addr × Value)} {L : List Ent} {a b x y : Int} (hE : Hid (Env W C L)) (h0 : Hid (Below W0.heap.size W0 W)) (ha : 0 ≤ a ∧ a ≤ 18446744073709551615) (hb : 0 ≤ b ∧ b ≤ 18446744073709551615) (hx : a % (255 + 1) = x) (hy : b % (255 + 1) = y) :
    Calls Tryz.prog 31 #[.int .u64 a, .int .u64 b] W fun e w' => e = .returned (.agg #[.int .u8 x, .int .u8 y]) ∧ Hid (Env w' C L) ∧ Hid (Below W0.heap.size W0 w') := by
  refine (pair_any ha hb W).mono ?_
  rintro e w' ⟨rfl, X, rfl⟩
  exact ⟨by rw [hx, hy], hE.out.below ((Below.refl _ _).alloc (Nat.le_refl _) _), h0.out.alloc h0.out.size _⟩
theorem fits39 : Fits 255 [((3 : Int), (9 : Int))] := fun x hx => by obtain rfl := List.mem_singleton.1 hx; decide
theorem fits310 : Fits 255 [((3 : Int), (10 : Int))] := fun x hx => by obtain rfl := List.mem_singleton.1 hx; decide
theorem not10 : false = true ↔ ∀ p : Int, (3 ≤ p ∧ p ≤ 9) ↔ (3 ≤ p ∧ p ≤ 10) := ⟨fun h => (by cases h), fun h => by have := (h 10).2 (by decide); omega⟩
theorem wrap_bounds {k : IntKind} {m : Int} (p : Int) (h : k.wrap p = p % (m + 1)) (hm : 0 ≤ m) : 0 ≤ k.wrap p ∧ k.wrap p ≤ m := by
  rw [h]
  have h1 := Int.emod_nonneg p (show m + 1 ≠ 0 by omega)
  have h2 := Int.emod_lt_of_pos p (show 0 < m + 1 by omega)
  omega
set_option maxRecDepth 100000 in
set_option maxHeartbeats 8000000 in
theorem spanLaws_any {w : World} {vl vm vo : Value} {l m o : List Int} {p : Int} (hl : UL w vl l) (hm : UL w vm m) (ho : UL w vo o) (hp : 0 ≤ p ∧ p ≤ 18446744073709551615) :
    Calls Tryz.prog 5 #[vl, vm, vo, .int .u64 p] w fun e w' => e = .returned (.bool true) ∧ Below w.heap.size w w' := by
  have HL : Hid (UL w vl l) := hl
  have HM : Hid (UL w vm m) := hm
  have HO : Hid (UL w vo o) := ho
  obtain ⟨_, al, cl, rfl, _, l1, _, _⟩ := hl
  obtain ⟨_, am, cm, rfl, _, m1, _, _⟩ := hm
  obtain ⟨_, ao, co, rfl, _, o1, _, _⟩ := ho
  unfold maxLen at l1 m1 o1
  obtain ⟨d0, d1, d2⟩ := three_new (W := w) rfl (.int .i64 l.length) (.int .i64 m.length) (.int .i64 o.length) 3
  by_cases hs : l.length + m.length + o.length ≤ 2147483647
  · have HBy : Hid (Calls Tryz.prog 29 #[.slice (some ⟨w.heap.size, 0, none⟩) 3 3] (w.alloc (.cells #[.int .i64 l.length, .int .i64 m.length, .int .i64 o.length] 3)) fun e w' => e = .returned (.bool false) ∧ w' = (w.alloc (.cells #[.int .i64 l.length, .int .i64 m.length, .int .i64 o.length] 3))) := beyond3_no _ _ _ _ _ _ hs d0 d1 d2
    clear d0 d1 d2
    go_enter Tryz.func5, Tryz.ntmps5
    go_wp2_with fail
    refine HBy.out.mono ?_
    rintro e w' ⟨rfl, rfl⟩
    clear HBy
    go_wp2_with fail
    obtain ⟨W2, hW2⟩ : ∃ W2, (w.alloc (.cells #[.int .i64 l.length, .int .i64 m.length, .int .i64 o.length] 3)).alloc (.cells #[.int .u64 3, .int .u64 5, .int .u64 6, .int .u64 9, .int .u64 20, .int .u64 19] 25) = W2 := ⟨_, rfl⟩
    have hul : UL W2 (.slice (some ⟨w.heap.size + 1, 0, none⟩) 6 6) six := hW2 ▸ six_ul (by simp) _
    have hb2 : Below w.heap.size w W2 := hW2 ▸ ((Below.refl _ _).alloc (Nat.le_refl _) _).alloc (by simp) _
    have hc2 := (many_any hul (by decide)).mono (made_env (W0 := w) (C := []) (L := []) (P := fun p => 3 ≤ p ∧ p ≤ 9) (n := 3) ⟨fun c hc => (by cases hc), fun c hc => (by cases hc)⟩ hb2 (fun rs hr => ⟨hr.1, Nat.le_trans hr.2.2 (by decide), fun p => (hr.2.1 p).trans (six_in p)⟩))
    rw [hW2]
    refine hc2.mono ?_
    rintro e w1 ⟨a1, k1, c1, rfl, HE, HB⟩
    clear hul hb2 hc2 hW2
    obtain ⟨W3, hW3⟩ : ∃ W3, w1.alloc (.cells #[.slice a1 k1 c1] 51) = W3 := ⟨_, rfl⟩
    have HE3 : Hid (Env W3.drew [(⟨w1.heap.size, 0, none⟩, .slice a1 k1 c1)] [(.slice a1 k1 c1, (fun p => 3 ≤ p ∧ p ≤ 9), 3)]) := hW3 ▸ HE.out.box _ _
    have HB3 : Hid (Below w.heap.size w W3.drew) := hW3 ▸ (HB.out.alloc HB.out.size _).drew
    have q0 : W3.cell? ⟨w1.heap.size, 0, none⟩ = some (.slice a1 k1 c1) := HE3.out.1 _ (List.Mem.head _)
    clear HE HB
    go_wp2_with fail
    clear hW3
    go_region_held3 (fun w' => w'.cell? ⟨w1.heap.size, 0, none⟩ = some (.slice a1 k1 c1)) (go_keep) (first | (go_at_call 31; refine (pairE (W0 := w) (x := 3) (y := 9) (by assumption) (by assumption) (by decide) (by decide) (by decide) (by decide)).mono ?_; rintro e w' ⟨rfl, HEn, HBn⟩; have q0 : w'.cell? ⟨w1.heap.size, 0, none⟩ = some (.slice a1 k1 c1) := HEn.out.1 _ (List.Mem.head _)) | (go_at_call 31; refine (pairE (W0 := w) (x := 3) (y := 10) (by assumption) (by assumption) (by decide) (by decide) (by decide) (by decide)).mono ?_; rintro e w' ⟨rfl, HEn, HBn⟩; have q0 : w'.cell? ⟨w1.heap.size, 0, none⟩ = some (.slice a1 k1 c1) := HEn.out.1 _ (List.Mem.head _)) | (go_at_call 18; refine (of_newE (W0 := w) (by assumption) (by assumption) (by first | exact fits39 | exact fits310)).mono ?_; rintro e w' ⟨a', k', c', rfl, HEn, HBn⟩; have q0 : w'.cell? ⟨w1.heap.size, 0, none⟩ = some (.slice a1 k1 c1) := HEn.out.1 _ (List.Mem.head _)) | (go_at_call 22; refine (same_env (W0 := w) (by assumption) (by assumption) (by repeat (first | exact List.Mem.head _ | apply List.Mem.tail)) (by repeat (first | exact List.Mem.head _ | apply List.Mem.tail)) true (sure fun q => Iff.rfl)).mono ?_; rintro e w' ⟨rfl, HEn, HBn⟩; have q0 : w'.cell? ⟨w1.heap.size, 0, none⟩ = some (.slice a1 k1 c1) := HEn.out.1 _ (List.Mem.head _)) | (go_at_call 22; refine (same_env (W0 := w) (by assumption) (by assumption) (by repeat (first | exact List.Mem.head _ | apply List.Mem.tail)) (by repeat (first | exact List.Mem.head _ | apply List.Mem.tail)) false (not10)).mono ?_; rintro e w' ⟨rfl, HEn, HBn⟩; have q0 : w'.cell? ⟨w1.heap.size, 0, none⟩ = some (.slice a1 k1 c1) := HEn.out.1 _ (List.Mem.head _)))
    go_wp2_with fail
    refine (U8.laws_any (HL.out.below HBn.out (Nat.le_refl _)) (HM.out.below HBn.out (Nat.le_refl _)) (HO.out.below HBn.out (Nat.le_refl _)) (by omega) (by omega) (by omega) (by omega)).mono ?_
    rintro e x1 ⟨rfl, hb⟩
    have Bx1 : Hid (Below w.heap.size w x1) := HBn.out.trans (hb.mono HBn.out.size)
    clear hb
    go_wp2_with fail
    refine (U16.laws_any (HL.out.below Bx1.out (Nat.le_refl _)) (HM.out.below Bx1.out (Nat.le_refl _)) (HO.out.below Bx1.out (Nat.le_refl _)) (by omega) (by omega) (by omega) (wrap_bounds (k := .u16) (m := 65535) p rfl (by decide))).mono ?_
    rintro e x2 ⟨rfl, hb⟩
    have Bx2 : Hid (Below w.heap.size w x2) := Bx1.out.trans (hb.mono Bx1.out.size)
    clear hb
    go_wp2_with fail
    refine (U64.laws_any (HL.out.below Bx2.out (Nat.le_refl _)) (HM.out.below Bx2.out (Nat.le_refl _)) (HO.out.below Bx2.out (Nat.le_refl _)) (by omega) (by omega) (by omega) hp).mono ?_
    rintro e x3 ⟨rfl, hb⟩
    have Bx3 : Hid (Below w.heap.size w x3) := Bx2.out.trans (hb.mono Bx2.out.size)
    clear hb
    go_wp2_with fail
    refine (Ty.laws_any (HL.out.below Bx3.out (Nat.le_refl _)) (HM.out.below Bx3.out (Nat.le_refl _)) (HO.out.below Bx3.out (Nat.le_refl _)) (by omega) (by omega) (by omega) (by omega)).mono ?_
    rintro e x4 ⟨rfl, hb⟩
    have Bx4 : Hid (Below w.heap.size w x4) := Bx3.out.trans (hb.mono Bx3.out.size)
    clear hb
    go_wp2_with fail
    go_ret
    exact ⟨rfl, Bx4.out⟩
  · have HBy : Hid (Calls Tryz.prog 29 #[.slice (some ⟨w.heap.size, 0, none⟩) 3 3] (w.alloc (.cells #[.int .i64 l.length, .int .i64 m.length, .int .i64 o.length] 3)) fun e w' => e = .returned (.bool true) ∧ w' = (w.alloc (.cells #[.int .i64 l.length, .int .i64 m.length, .int .i64 o.length] 3))) := beyond3_yes _ _ _ _ _ _ (by omega) (by omega) (by omega) d0 d1 d2
    clear d0 d1 d2
    go_enter Tryz.func5, Tryz.ntmps5
    go_wp2_with fail
    refine HBy.out.mono ?_
    rintro e w' ⟨rfl, rfl⟩
    clear HBy
    go_wp2_with fail
    go_ret
    exact ⟨rfl, (Below.refl _ _).alloc (Nat.le_refl _) _⟩
end Go.Proofs.YtlndphdgodmgpaaGreat.SpMain
