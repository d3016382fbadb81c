import Derived.Test.YtlndphdgodmgpaaGreatPkBU16
import Derived.Test.YtlndphdgodmgpaaGreatPkCU16
import Derived.Deep.DrawnRows
/- What is known of the sets at hand; each call, by what it tells of points. Own work. -/
namespace Go.Proofs.YtlndphdgodmgpaaGreat.U16
open Go.RowKit Go.Shelf Go.Proofs.YtlndphdgodmgpaaGreat.Sp

/-- A row of the fewest spans of just these points, of at most n. -/
def Knw (W : World) (v : Value) (P : Int → Prop) (n : Nat) : Prop := ∃ rs, SV W v rs ∧ Canon 65535 rs ∧ rs.length ≤ n ∧ ∀ p, In p rs ↔ P p
theorem Knw.below {W W' : World} {v : Value} {P : Int → Prop} {n : Nat} (h : Knw W v P n) (hb : Below W.heap.size W W') : Knw W' v P n := by
  obtain ⟨rs, h1, h2⟩ := h
  exact ⟨rs, h1.below hb (Nat.le_refl _), h2⟩
abbrev Ent := Value × (Int → Prop) × Nat
/-- Boxes that hold what they hold; the rows at hand. -/
def Env (W : World) (C : List (Addr × Value)) (L : List Ent) : Prop := (∀ c ∈ C, W.cell? c.1 = some c.2) ∧ ∀ e ∈ L, Knw W e.1 e.2.1 e.2.2
theorem Env.below {W W' : World} {C : List (Addr × Value)} {L : List Ent} (h : Env W C L) (hb : Below W.heap.size W W') : Env W' C L :=
  ⟨fun c hc => by rw [hb.cell (World.block_lt_of_cell? W _ (h.1 c hc))]; exact h.1 c hc, fun e he => (h.2 e he).below hb⟩
theorem Env.cons {W : World} {C : List (Addr × Value)} {L : List Ent} (h : Env W C L) {v : Value} {P : Int → Prop} {n : Nat} (hk : Knw W v P n) : Env W C ((v, P, n) :: L) :=
  ⟨h.1, fun e he => by
    rcases List.mem_cons.1 he with rfl | he
    · exact hk
    · exact h.2 e he⟩
/-- Behind a call that makes a row. -/
def MadeE (W0 : World) (C : List (Addr × Value)) (L : List Ent) (P : Int → Prop) (n : Nat) (e : Ending) (w' : World) : Prop :=
  ∃ a k c, e = .returned (.agg #[.slice a k c]) ∧ Hid (Env w' C ((.slice a k c, P, n) :: L)) ∧ Hid (Below W0.heap.size W0 w')
theorem made_env {W0 W : World} {C : List (Addr × Value)} {L : List Ent} {P : Int → Prop} {n : Nat} {R : List Sp → Prop} (hE : Env W C L) (h0 : Below W0.heap.size W0 W) (hR : ∀ rs, R rs → Canon 65535 rs ∧ rs.length ≤ n ∧ ∀ p, In p rs ↔ P p) (e : Ending) (w' : World) (h : SetPost W R e w') : MadeE W0 C L P n e w' := by
  obtain ⟨v, rs, rfl, ho, hr, hb⟩ := h
  obtain ⟨a, k, c, hv⟩ : ∃ a k c, v = .slice a k c := by
    obtain ⟨a, c, e, _⟩ := ho.sv
    exact ⟨a, _, c, e⟩
  subst hv
  have := hR rs hr
  exact ⟨a, k, c, rfl, (hE.below hb).cons ⟨rs, ho.sv, this⟩, h0.trans (hb.mono h0.size)⟩
theorem or_env {W0 W : World} {C : List (Addr × Value)} {L : List Ent} {v1 v2 : Value} {P1 P2 : Int → Prop} {n1 n2 : Nat} (hE : Hid (Env W C L)) (h0 : Hid (Below W0.heap.size W0 W)) (h1 : (v1, P1, n1) ∈ L) (h2 : (v2, P2, n2) ∈ L) (hn : n1 + n2 ≤ 274877906944) :
    Calls Tryz.prog 118 #[.agg #[v1], .agg #[v2]] W (MadeE W0 C L (fun p => P1 p ∨ P2 p) (2 * n1 + 2 * n2 + 1)) := by
  obtain ⟨r1, a1, a2, a3, a4⟩ := hE.out.2 _ h1
  obtain ⟨r2, b1, b2, b3, b4⟩ := hE.out.2 _ h2
  refine (or_any a1 b1 a2 b2 (by simp only at a3 b3; omega)).mono (made_env hE.out h0.out fun rs hr => ⟨hr.1, by have := hr.2.2; simp only at a3 b3; omega, fun p => ?_⟩)
  rw [hr.or a2 b2 p, a4 p, b4 p]
theorem meet_env {W0 W : World} {C : List (Addr × Value)} {L : List Ent} {v1 v2 : Value} {P1 P2 : Int → Prop} {n1 n2 : Nat} (hE : Hid (Env W C L)) (h0 : Hid (Below W0.heap.size W0 W)) (h1 : (v1, P1, n1) ∈ L) (h2 : (v2, P2, n2) ∈ L) (hn : n1 + n2 ≤ 274877906944) :
    Calls Tryz.prog 119 #[.agg #[v1], .agg #[v2]] W (MadeE W0 C L (fun p => P1 p ∧ P2 p) (2 * n1 + 2 * n2 + 1)) := by
  obtain ⟨r1, a1, a2, a3, a4⟩ := hE.out.2 _ h1
  obtain ⟨r2, b1, b2, b3, b4⟩ := hE.out.2 _ h2
  refine (meet_any a1 b1 a2 b2 (by simp only at a3 b3; omega)).mono (made_env hE.out h0.out fun rs hr => ⟨hr.1, by have := hr.2.2; simp only at a3 b3; omega, fun p => ?_⟩)
  rw [hr.meet a2 p, a4 p, b4 p]
theorem less_env {W0 W : World} {C : List (Addr × Value)} {L : List Ent} {v1 v2 : Value} {P1 P2 : Int → Prop} {n1 n2 : Nat} (hE : Hid (Env W C L)) (h0 : Hid (Below W0.heap.size W0 W)) (h1 : (v1, P1, n1) ∈ L) (h2 : (v2, P2, n2) ∈ L) (hn : n1 + n2 ≤ 274877906944) :
    Calls Tryz.prog 120 #[.agg #[v1], .agg #[v2]] W (MadeE W0 C L (fun p => P1 p ∧ ¬ P2 p) (2 * n1 + 2 * n2 + 1)) := by
  obtain ⟨r1, a1, a2, a3, a4⟩ := hE.out.2 _ h1
  obtain ⟨r2, b1, b2, b3, b4⟩ := hE.out.2 _ h2
  refine (less_any a1 b1 a2 b2 (by simp only at a3 b3; omega)).mono (made_env hE.out h0.out fun rs hr => ⟨hr.1, by have := hr.2.2; simp only at a3 b3; omega, fun p => ?_⟩)
  rw [hr.less a2 p, a4 p, b4 p]
/-- Behind a call that asks. -/
def AskE (W0 : World) (C : List (Addr × Value)) (L : List Ent) (b : Bool) (e : Ending) (w' : World) : Prop := e = .returned (.bool b) ∧ Hid (Env w' C L) ∧ Hid (Below W0.heap.size W0 w')
theorem same_env {W0 W : World} {C : List (Addr × Value)} {L : List Ent} {v1 v2 : Value} {P1 P2 : Int → Prop} {n1 n2 : Nat} (hE : Hid (Env W C L)) (h0 : Hid (Below W0.heap.size W0 W)) (h1 : (v1, P1, n1) ∈ L) (h2 : (v2, P2, n2) ∈ L) (b : Bool) (hb : b = true ↔ ∀ p, P1 p ↔ P2 p) :
    Calls Tryz.prog 20 #[.agg #[v1], .agg #[v2]] W (AskE W0 C L b) := by
  obtain ⟨r1, a1, a2, a3, a4⟩ := hE.out.2 _ h1
  obtain ⟨r2, b1, b2, b3, b4⟩ := hE.out.2 _ h2
  refine (same_any a1 b1).mono ?_
  rintro e w' ⟨rfl, hb'⟩
  refine ⟨?_, hE.out.below hb', h0.out.trans (hb'.mono h0.out.size)⟩
  have : decide (r1 = r2) = b := by
    rw [Bool.eq_iff_iff, decide_eq_true_eq, hb]
    constructor
    · intro e p
      exact (a4 p).symm.trans (e ▸ b4 p)
    · intro h
      exact canon_ext a2 b2 fun p => by rw [a4 p, b4 p]; exact h p
  rw [this]
theorem has_env {W0 W : World} {C : List (Addr × Value)} {L : List Ent} {v1 : Value} {P1 : Int → Prop} {n1 : Nat} {p : Int} (hE : Hid (Env W C L)) (h0 : Hid (Below W0.heap.size W0 W)) (h1 : (v1, P1, n1) ∈ L) (hn : n1 ≤ 1152921504606846976) (b : Bool) (hb : b = true ↔ P1 p) :
    Calls Tryz.prog 9 #[.agg #[v1], .int .u16 p] W (AskE W0 C L b) := by
  obtain ⟨r1, a1, a2, a3, a4⟩ := hE.out.2 _ h1
  refine (has_any a1 a2 (by simp only at a3; omega)).mono ?_
  rintro e w' ⟨rfl, hb'⟩
  refine ⟨?_, hE.out.below hb', h0.out.trans (hb'.mono h0.out.size)⟩
  have : coversB r1 (p, p) = b := by rw [Bool.eq_iff_iff, hasB_iff a2, a4 p, hb]
  rw [this]
theorem covers_env {W0 W : World} {C : List (Addr × Value)} {L : List Ent} {v1 : Value} {P1 : Int → Prop} {n1 : Nat} {x y : Int} (hE : Hid (Env W C L)) (h0 : Hid (Below W0.heap.size W0 W)) (h1 : (v1, P1, n1) ∈ L) (hn : n1 ≤ 1152921504606846976) (b : Bool) (hb : b = true ↔ ∀ p, x ≤ p → p ≤ y → P1 p) :
    Calls Tryz.prog 10 #[.agg #[v1], .agg #[.int .u16 x, .int .u16 y]] W (AskE W0 C L b) := by
  obtain ⟨r1, a1, a2, a3, a4⟩ := hE.out.2 _ h1
  refine (covers_any (x := (x, y)) a1 a2 (by simp only at a3; omega)).mono ?_
  rintro e w' ⟨rfl, hb'⟩
  refine ⟨?_, hE.out.below hb', h0.out.trans (hb'.mono h0.out.size)⟩
  have : coversB r1 (x, y) = b := by
    rw [Bool.eq_iff_iff, coversB_iff a2, hb]
    exact forall_congr' fun p => by rw [a4 p]
  rw [this]
theorem touches_env {W0 W : World} {C : List (Addr × Value)} {L : List Ent} {v1 : Value} {P1 : Int → Prop} {n1 : Nat} {x y : Int} (hE : Hid (Env W C L)) (h0 : Hid (Below W0.heap.size W0 W)) (h1 : (v1, P1, n1) ∈ L) (hn : n1 ≤ 1152921504606846976) (b : Bool) (hb : b = true ↔ ∃ p, x ≤ p ∧ p ≤ y ∧ P1 p) :
    Calls Tryz.prog 11 #[.agg #[v1], .agg #[.int .u16 x, .int .u16 y]] W (AskE W0 C L b) := by
  obtain ⟨r1, a1, a2, a3, a4⟩ := hE.out.2 _ h1
  refine (touches_any (x := (x, y)) a1 a2 (by simp only at a3; omega)).mono ?_
  rintro e w' ⟨rfl, hb'⟩
  refine ⟨?_, hE.out.below hb', h0.out.trans (hb'.mono h0.out.size)⟩
  have : touchesB r1 (x, y) = b := by
    rw [Bool.eq_iff_iff, touchesB_iff a2, hb]
    exact exists_congr fun p => by rw [a4 p]
  rw [this]
theorem of_fits {m : Int} {rs : List Sp} (h : Canon m rs) : Fits m rs := fun x hx => by have := h.1 x hx; omega
theorem ofE {W0 W : World} {C : List (Addr × Value)} {L : List Ent} {v1 : Value} {P1 : Int → Prop} {n1 : Nat} (hE : Hid (Env W C L)) (h0 : Hid (Below W0.heap.size W0 W)) (h1 : (v1, P1, n1) ∈ L) (hn : n1 ≤ 1099511627776) :
    Calls Tryz.prog 21 #[v1] W (MadeE W0 C L P1 n1) := by
  obtain ⟨r1, a1, a2, a3, a4⟩ := hE.out.2 _ h1
  refine (of_any a1 (of_fits a2) (by simp only at a3; omega)).mono (made_env hE.out h0.out fun rs hr => ⟨hr.1, by have := hr.2.2; simp only at a3; omega, fun p => by rw [hr.2.1 p, a4 p]⟩)
theorem of_nilE {W0 W : World} {C : List (Addr × Value)} {L : List Ent} (hE : Hid (Env W C L)) (h0 : Hid (Below W0.heap.size W0 W)) :
    Calls Tryz.prog 21 #[.slice none 0 0] W (MadeE W0 C L (fun _ => False) 0) :=
  (of_any (SV.nil W) (fun x hx => (by cases hx)) (by simp)).mono (made_env hE.out h0.out fun rs hr => ⟨hr.1, hr.2.2, fun p => by rw [hr.2.1 p]; simp [in_nil]⟩)
theorem of_oneE {W0 W : World} {C : List (Addr × Value)} {L : List Ent} {g : Nat} {x y : Int} (hE : Hid (Env W C L)) (h0 : Hid (Below W0.heap.size W0 W)) (c0 : W.cell? ⟨g, 0, none⟩ = some (.int .u16 x)) (c1 : W.cell? ⟨g, 1, none⟩ = some (.int .u16 y)) (hf : Fits 65535 [(x, y)]) :
    Calls Tryz.prog 21 #[.slice (some ⟨g, 0, none⟩) 1 1] W (MadeE W0 C L (fun p => x ≤ p ∧ p ≤ y) 1) :=
  (of_any (one_sv (x := (x, y)) c0 c1) hf (by simp)).mono (made_env hE.out h0.out fun rs hr => ⟨hr.1, hr.2.2, fun p => by rw [hr.2.1 p, in_one]⟩)
theorem with_env {W0 W : World} {C : List (Addr × Value)} {L : List Ent} {v1 : Value} {P1 : Int → Prop} {n1 : Nat} {x y : Int} (hE : Hid (Env W C L)) (h0 : Hid (Below W0.heap.size W0 W)) (h1 : (v1, P1, n1) ∈ L) (hn : n1 ≤ 137438953472) (hf : Fits 65535 [(x, y)]) :
    Calls Tryz.prog 121 #[.agg #[v1], .agg #[.int .u16 x, .int .u16 y]] W (MadeE W0 C L (fun p => P1 p ∨ (x ≤ p ∧ p ≤ y)) (2 * n1 + 3)) := by
  obtain ⟨r1, a1, a2, a3, a4⟩ := hE.out.2 _ h1
  refine (with_any (x := (x, y)) a1 a2 (by simp only at a3; omega) hf).mono (made_env hE.out h0.out ?_)
  rintro rs ⟨ts, ht, hr⟩
  refine ⟨hr.1, by have := hr.2.2; have := ht.2.2; simp only [List.length_cons, List.length_nil] at *; omega, fun p => ?_⟩
  rw [hr.or a2 ht.1 p, a4 p, ht.2.1 p, in_one]
theorem without_env {W0 W : World} {C : List (Addr × Value)} {L : List Ent} {v1 : Value} {P1 : Int → Prop} {n1 : Nat} {x y : Int} (hE : Hid (Env W C L)) (h0 : Hid (Below W0.heap.size W0 W)) (h1 : (v1, P1, n1) ∈ L) (hn : n1 ≤ 137438953472) (hf : Fits 65535 [(x, y)]) :
    Calls Tryz.prog 122 #[.agg #[v1], .agg #[.int .u16 x, .int .u16 y]] W (MadeE W0 C L (fun p => P1 p ∧ ¬ (x ≤ p ∧ p ≤ y)) (2 * n1 + 3)) := by
  obtain ⟨r1, a1, a2, a3, a4⟩ := hE.out.2 _ h1
  refine (without_any (x := (x, y)) a1 a2 (by simp only at a3; omega) hf).mono (made_env hE.out h0.out ?_)
  rintro rs ⟨ts, ht, hr⟩
  refine ⟨hr.1, by have := hr.2.2; have := ht.2.2; simp only [List.length_cons, List.length_nil] at *; omega, fun p => ?_⟩
  rw [hr.less a2 p, a4 p, ht.2.1 p, in_one]
/-- Behind Spans: a row. -/
def RowE (W0 : World) (C : List (Addr × Value)) (L : List Ent) (P : Int → Prop) (n : Nat) (e : Ending) (w' : World) : Prop :=
  ∃ a k c, e = .returned (.slice a k c) ∧ Hid (Env w' C ((.slice a k c, P, n) :: L)) ∧ Hid (Below W0.heap.size W0 w')
theorem spans_env {W0 W : World} {C : List (Addr × Value)} {L : List Ent} {v1 : Value} {P1 : Int → Prop} {n1 : Nat} (hE : Hid (Env W C L)) (h0 : Hid (Below W0.heap.size W0 W)) (h1 : (v1, P1, n1) ∈ L) (hn : n1 ≤ 1099511627776) :
    Calls Tryz.prog 12 #[.agg #[v1]] W (RowE W0 C L P1 n1) := by
  obtain ⟨r1, a1, a2, a3, a4⟩ := hE.out.2 _ h1
  refine (spans_any a1 (by simp only at a3; omega)).mono ?_
  rintro e w' ⟨v', rfl, ho, hb⟩
  obtain ⟨a, k, c, hv⟩ : ∃ a k c, v' = .slice a k c := by
    obtain ⟨a, c, e, _⟩ := ho.sv
    exact ⟨a, _, c, e⟩
  subst hv
  exact ⟨a, k, c, rfl, (hE.out.below hb).cons ⟨r1, ho.sv, a2, a3, a4⟩, h0.out.trans (hb.mono h0.out.size)⟩
theorem manyE {W0 W : World} {C : List (Addr × Value)} {L : List Ent} {v : Value} {zs : List Int} (hE : Hid (Env W C L)) (h0 : Hid (Below W0.heap.size W0 W)) (hv : UL W0 v zs) (hn : zs.length ≤ 4294967296) :
    Calls Tryz.prog 117 #[v] W (MadeE W0 C L (fun p => In p (pairs 65535 zs)) 2147483648) :=
  (many_any (hv.below h0.out (Nat.le_refl _)) hn).mono (made_env hE.out h0.out fun rs hr => ⟨hr.1, by have := hr.2.2; unfold pairs at this; rw [pairsN_length] at this; omega, hr.2.1⟩)
end Go.Proofs.YtlndphdgodmgpaaGreat.U16
/- laws: what sets have to do with one another. Own work. -/
namespace Go.Proofs.YtlndphdgodmgpaaGreat.U16
open Go.RowKit Go.Shelf Go.Proofs.YtlndphdgodmgpaaGreat.Sp
attribute [local go_sem ↓] Go.wp_at_zero Go.wp_at_succ

theorem box_cell {w : World} {o : Value} {t : TypeId} : (w.alloc (.cells #[o] t)).cell? ⟨w.heap.size, 0, none⟩ = some o := by
  rw [cell_of_row _ _ 0 _ _ _ (heap_alloc_new w _)]; rfl
theorem Env.box {W : World} {C : List (Addr × Value)} {L : List Ent} (h : Env W C L) (v : Value) (t : TypeId) : Env (W.alloc (.cells #[v] t)) ((⟨W.heap.size, 0, none⟩, v) :: C) L := by
  have h' := h.below ((Below.refl _ _).alloc (Nat.le_refl _) (.cells #[v] t))
  refine ⟨fun c hc => ?_, h'.2⟩
  rcases List.mem_cons.1 hc with rfl | hc
  · exact box_cell
  · exact h'.1 c hc
open Classical in
noncomputable def decide' (P : Prop) : Bool := decide P
theorem decide_iff {P : Prop} : decide' P = true ↔ P := by simp [decide']
theorem not_iff {A B : Prop} {b : Bool} (h : B) (hb : b = true ↔ A) : (!b) = true ↔ B ∧ ¬ A := by cases b <;> simp_all
theorem notT {p m : Int} {S : Int → Prop} {b : Bool} (hp : 0 ≤ p ∧ p ≤ m) (hb : b = true ↔ ∃ q, p ≤ q ∧ q ≤ m ∧ S q) : (!b) = true ↔ ∀ q, p ≤ q → q ≤ m → (0 ≤ q ∧ q ≤ m) ∧ ¬ S q := by
  rw [Bool.not_eq_true', ← Bool.not_eq_true, hb]
  constructor
  · intro h q h1 h2; exact ⟨⟨by omega, h2⟩, fun hs => h ⟨q, h1, h2, hs⟩⟩
  · rintro h ⟨q, h1, h2, h3⟩; exact (h q h1 h2).2 h3
theorem notC {p m : Int} {S : Int → Prop} {b : Bool} (hp : 0 ≤ p ∧ p ≤ m) (hb : b = true ↔ ∀ q, p ≤ q → q ≤ m → S q) : (!b) = true ↔ ∃ q, p ≤ q ∧ q ≤ m ∧ ((0 ≤ q ∧ q ≤ m) ∧ ¬ S q) := by
  rw [Bool.not_eq_true', ← Bool.not_eq_true, hb]
  constructor
  · intro h
    apply Classical.byContradiction
    intro h2
    exact h fun q h3 h4 => Classical.byContradiction fun hs => h2 ⟨q, h3, h4, ⟨by omega, h4⟩, hs⟩
  · rintro ⟨q, h1, h2, h3⟩ h; exact h3.2 (h q h1 h2)
theorem withC {p m : Int} {S : Int → Prop} : true = true ↔ ∀ q, p ≤ q → q ≤ m → (S q ∨ (p ≤ q ∧ q ≤ m)) := ⟨fun _ _ h1 h2 => .inr ⟨h1, h2⟩, fun _ => rfl⟩
theorem withoutT {p m : Int} {S : Int → Prop} : false = true ↔ ∃ q, p ≤ q ∧ q ≤ m ∧ (S q ∧ ¬ (p ≤ q ∧ q ≤ m)) := ⟨fun h => (by cases h), fun ⟨_, h1, h2, h3⟩ => absurd ⟨h1, h2⟩ h3.2⟩
theorem x_fits {p : Int} (hp : 0 ≤ p ∧ p ≤ 65535) : Fits 65535 [(p, (65535 : Int))] := fun x hx => by obtain rfl := List.mem_singleton.1 hx; exact ⟨hp.1, hp.2, (show (0 : Int) ≤ 65535 by decide), (show (65535 : Int) ≤ 65535 by decide)⟩
theorem Env.box2 {W : World} {C : List (Addr × Value)} {L : List Ent} (h : Env W C L) (a b : Value) (t : TypeId) : Env (W.alloc (.cells #[a, b] t)) ((⟨W.heap.size, 0, none⟩, a) :: (⟨W.heap.size, 1, none⟩, b) :: C) L := by
  have h' := h.below ((Below.refl _ _).alloc (Nat.le_refl _) (.cells #[a, b] t))
  refine ⟨fun c hc => ?_, h'.2⟩
  rcases List.mem_cons.1 hc with rfl | hc
  · exact (new2 rfl a b t).1
  · rcases List.mem_cons.1 hc with rfl | hc
    · exact (new2 rfl a b t).2
    · exact h'.1 c hc
theorem all_fits : Fits 65535 [((0 : Int), (65535 : Int))] := fun x hx => by obtain rfl := List.mem_singleton.1 hx; decide
theorem pair_all (w : World) : Calls Tryz.prog 91 #[.int .u64 0, .int .u64 65535] w fun e w' => e = .returned (.agg #[.int .u16 0, .int .u16 65535]) ∧ ∃ X, w' = w.alloc X := by
  have h := pair_any (a := 0) (b := 65535) (by decide) (by decide) w
  rwa [show (0 : Int) % (65535 + 1) = 0 by decide, show (65535 : Int) % (65535 + 1) = 65535 by decide] at h
theorem Env.drop {W : World} {C : List (Addr × Value)} {L : List Ent} (h : Env W C L) (n : Nat) : Env W C (L.drop n) := ⟨h.1, fun e he => h.2 e (List.mem_of_mem_drop he)⟩
set_option maxRecDepth 100000 in
set_option maxHeartbeats 8000000 in
theorem laws_any {w : World} {vl vm vo : Value} {l m o : List Int} {p : Int} (hl : UL w vl l) (hm : UL w vm m) (ho : UL w vo o) (nl : l.length ≤ 4294967296) (nm : m.length ≤ 4294967296) (no : o.length ≤ 4294967296) (hp : 0 ≤ p ∧ p ≤ 65535) :
    Calls Tryz.prog 33 #[vl, vm, vo, .int .u16 p] w fun e w' => e = .returned (.bool true) ∧ Below w.heap.size w w' := by
  have HL : Hid (UL w vl l) := hl
  have HM : Hid (UL w vm m) := hm
  have HO : Hid (UL w vo o) := ho
  obtain ⟨S, hS⟩ : ∃ S : Int → Prop, S = fun p => In p (pairs 65535 l) := ⟨_, rfl⟩
  obtain ⟨T, hT⟩ : ∃ T : Int → Prop, T = fun p => In p (pairs 65535 m) := ⟨_, rfl⟩
  obtain ⟨U, hU⟩ : ∃ U : Int → Prop, U = fun p => In p (pairs 65535 o) := ⟨_, rfl⟩
  have HSr : Hid (∀ q, S q → 0 ≤ q ∧ q ≤ 65535) := fun q hq => by
    rw [hS] at hq
    obtain ⟨x, hx, h1, h2⟩ := hq
    have := pairs_fits (m := 65535) (by decide) l x hx
    omega
  have HE0 : Hid (Env w [] []) := ⟨fun c hc => (by cases hc), fun c hc => (by cases hc)⟩
  have HB0 : Hid (Below w.heap.size w w) := Below.refl _ _
  have HC1 : Hid (Calls Tryz.prog 117 #[vl] w (MadeE w [] [] S 2147483648)) := hS ▸ manyE HE0 HB0 HL.out nl
  have HC2 : Hid (∀ W C L, Hid (Env W C L) → Hid (Below w.heap.size w W) → Calls Tryz.prog 117 #[vm] W (MadeE w C L T 2147483648)) := fun W C L h1 h2 => hT ▸ manyE h1 h2 HM.out nm
  have HC3 : Hid (∀ W C L, Hid (Env W C L) → Hid (Below w.heap.size w W) → Calls Tryz.prog 117 #[vo] W (MadeE w C L U 2147483648)) := fun W C L h1 h2 => hU ▸ manyE h1 h2 HO.out no
  clear hl hm ho hS hT hU HE0 HB0
  go_enter Tryz.func33, Tryz.ntmps33
  go_wp2_with fail
  refine HC1.out.mono ?_
  rintro e w1 ⟨a1, k1, c1, rfl, HE, HB⟩
  have HE1 : Hid (Env (w1.alloc (.cells #[.slice a1 k1 c1] 24)) [(⟨w1.heap.size, 0, none⟩, .slice a1 k1 c1)] [(.slice a1 k1 c1, S, 2147483648)]) := HE.out.box _ _
  have HB1 : Hid (Below w.heap.size w (w1.alloc (.cells #[.slice a1 k1 c1] 24))) := HB.out.alloc HB.out.size _
  clear HC1 HE HB
  go_wp2_with fail
  refine (HC2.out _ _ _ HE1 HB1).mono ?_
  rintro e w2 ⟨a2, k2, c2, rfl, HE, HB⟩
  have HE2 : Hid (Env (w2.alloc (.cells #[.slice a2 k2 c2] 24)) [(⟨w2.heap.size, 0, none⟩, .slice a2 k2 c2), (⟨w1.heap.size, 0, none⟩, .slice a1 k1 c1)] [(.slice a2 k2 c2, T, 2147483648), (.slice a1 k1 c1, S, 2147483648)]) := HE.out.box _ _
  have HB2 : Hid (Below w.heap.size w (w2.alloc (.cells #[.slice a2 k2 c2] 24))) := HB.out.alloc HB.out.size _
  clear HC2 HE HB HE1 HB1
  go_wp2_with fail
  refine (HC3.out _ _ _ HE2 HB2).mono ?_
  rintro e w3 ⟨a3, k3, c3, rfl, HE, HB⟩
  have HE3 : Hid (Env (w3.alloc (.cells #[.slice a3 k3 c3] 24)) [(⟨w3.heap.size, 0, none⟩, .slice a3 k3 c3), (⟨w2.heap.size, 0, none⟩, .slice a2 k2 c2), (⟨w1.heap.size, 0, none⟩, .slice a1 k1 c1)] [(.slice a3 k3 c3, U, 2147483648), (.slice a2 k2 c2, T, 2147483648), (.slice a1 k1 c1, S, 2147483648)]) := HE.out.box _ _
  have HB3 : Hid (Below w.heap.size w (w3.alloc (.cells #[.slice a3 k3 c3] 24))) := HB.out.alloc HB.out.size _
  clear HC3 HE HB HE2 HB2
  go_wp2_with fail
  obtain ⟨W, hW⟩ : ∃ W, w3.alloc (.cells #[.slice a3 k3 c3] 24) = W := ⟨_, rfl⟩
  rw [hW] at HE3 HB3 ⊢
  clear hW
  have q0 : W.cell? ⟨w3.heap.size, 0, none⟩ = some (.slice a3 k3 c3) := HE3.out.1 _ (List.Mem.head _)
  have q1 : W.cell? ⟨w2.heap.size, 0, none⟩ = some (.slice a2 k2 c2) := HE3.out.1 _ (List.Mem.tail _ (List.Mem.head _))
  have q2 : W.cell? ⟨w1.heap.size, 0, none⟩ = some (.slice a1 k1 c1) := HE3.out.1 _ (List.Mem.tail _ (List.Mem.tail _ (List.Mem.head _)))
  have HEd : Hid (Env W.drew [(⟨w3.heap.size, 0, none⟩, .slice a3 k3 c3), (⟨w2.heap.size, 0, none⟩, .slice a2 k2 c2), (⟨w1.heap.size, 0, none⟩, .slice a1 k1 c1)] [(.slice a3 k3 c3, U, 2147483648), (.slice a2 k2 c2, T, 2147483648), (.slice a1 k1 c1, S, 2147483648)]) := HE3.out
  have HBd : Hid (Below w.heap.size w W.drew) := HB3.out.drew
  go_region_held3 (fun w' => w'.cell? ⟨w3.heap.size, 0, none⟩ = some (.slice a3 k3 c3) ∧ w'.cell? ⟨w2.heap.size, 0, none⟩ = some (.slice a2 k2 c2) ∧ w'.cell? ⟨w1.heap.size, 0, none⟩ = some (.slice a1 k1 c1)) (go_keep) (first | (go_at_call 118; refine (or_env (W0 := w) (by assumption) (by assumption) (by repeat (first | exact List.Mem.head _ | apply List.Mem.tail)) (by repeat (first | exact List.Mem.head _ | apply List.Mem.tail)) (by omega)).mono ?_; rintro e w' ⟨a', k', c', rfl, HEn, HBn⟩; have q0 : w'.cell? ⟨w3.heap.size, 0, none⟩ = some (.slice a3 k3 c3) := HEn.out.1 _ (List.Mem.head _); have q1 : w'.cell? ⟨w2.heap.size, 0, none⟩ = some (.slice a2 k2 c2) := HEn.out.1 _ (List.Mem.tail _ (List.Mem.head _)); have q2 : w'.cell? ⟨w1.heap.size, 0, none⟩ = some (.slice a1 k1 c1) := HEn.out.1 _ (List.Mem.tail _ (List.Mem.tail _ (List.Mem.head _)))) | (go_at_call 119; refine (meet_env (W0 := w) (by assumption) (by assumption) (by repeat (first | exact List.Mem.head _ | apply List.Mem.tail)) (by repeat (first | exact List.Mem.head _ | apply List.Mem.tail)) (by omega)).mono ?_; rintro e w' ⟨a', k', c', rfl, HEn, HBn⟩; have q0 : w'.cell? ⟨w3.heap.size, 0, none⟩ = some (.slice a3 k3 c3) := HEn.out.1 _ (List.Mem.head _); have q1 : w'.cell? ⟨w2.heap.size, 0, none⟩ = some (.slice a2 k2 c2) := HEn.out.1 _ (List.Mem.tail _ (List.Mem.head _)); have q2 : w'.cell? ⟨w1.heap.size, 0, none⟩ = some (.slice a1 k1 c1) := HEn.out.1 _ (List.Mem.tail _ (List.Mem.tail _ (List.Mem.head _)))) | (go_at_call 120; refine (less_env (W0 := w) (by assumption) (by assumption) (by repeat (first | exact List.Mem.head _ | apply List.Mem.tail)) (by repeat (first | exact List.Mem.head _ | apply List.Mem.tail)) (by omega)).mono ?_; rintro e w' ⟨a', k', c', rfl, HEn, HBn⟩; have q0 : w'.cell? ⟨w3.heap.size, 0, none⟩ = some (.slice a3 k3 c3) := HEn.out.1 _ (List.Mem.head _); have q1 : w'.cell? ⟨w2.heap.size, 0, none⟩ = some (.slice a2 k2 c2) := HEn.out.1 _ (List.Mem.tail _ (List.Mem.head _)); have q2 : w'.cell? ⟨w1.heap.size, 0, none⟩ = some (.slice a1 k1 c1) := HEn.out.1 _ (List.Mem.tail _ (List.Mem.tail _ (List.Mem.head _)))) | (go_at_call 20; refine (same_env (W0 := w) (by assumption) (by assumption) (by repeat (first | exact List.Mem.head _ | apply List.Mem.tail)) (by repeat (first | exact List.Mem.head _ | apply List.Mem.tail)) true (sure fun q => (by first | exact Or.comm | exact prop2 | exact prop3))).mono ?_; rintro e w' ⟨rfl, HEn, HBn⟩; have q0 : w'.cell? ⟨w3.heap.size, 0, none⟩ = some (.slice a3 k3 c3) := HEn.out.1 _ (List.Mem.head _); have q1 : w'.cell? ⟨w2.heap.size, 0, none⟩ = some (.slice a2 k2 c2) := HEn.out.1 _ (List.Mem.tail _ (List.Mem.head _)); have q2 : w'.cell? ⟨w1.heap.size, 0, none⟩ = some (.slice a1 k1 c1) := HEn.out.1 _ (List.Mem.tail _ (List.Mem.tail _ (List.Mem.head _)))))
  go_wp2_with fail
  obtain ⟨W4, hW4⟩ : ∃ W4, w' = W4 := ⟨_, rfl⟩
  have HE4 : Hid (Env W4.drew [(⟨w3.heap.size, 0, none⟩, .slice a3 k3 c3), (⟨w2.heap.size, 0, none⟩, .slice a2 k2 c2), (⟨w1.heap.size, 0, none⟩, .slice a1 k1 c1)] [(.slice a3 k3 c3, U, 2147483648), (.slice a2 k2 c2, T, 2147483648), (.slice a1 k1 c1, S, 2147483648)]) := hW4 ▸ HEn.out.drop 9
  have HB4 : Hid (Below w.heap.size w W4.drew) := hW4 ▸ HBn.out.drew
  have q0 : W4.cell? ⟨w3.heap.size, 0, none⟩ = some (.slice a3 k3 c3) := HE4.out.1 _ (List.Mem.head _)
  have q1 : W4.cell? ⟨w2.heap.size, 0, none⟩ = some (.slice a2 k2 c2) := HE4.out.1 _ (List.Mem.tail _ (List.Mem.head _))
  have q2 : W4.cell? ⟨w1.heap.size, 0, none⟩ = some (.slice a1 k1 c1) := HE4.out.1 _ (List.Mem.tail _ (List.Mem.tail _ (List.Mem.head _)))
  rw [hW4]
  clear HEn HBn hW4 HE3 HB3 HEd HBd
  go_region_held3 (fun w' => w'.cell? ⟨w3.heap.size, 0, none⟩ = some (.slice a3 k3 c3) ∧ w'.cell? ⟨w2.heap.size, 0, none⟩ = some (.slice a2 k2 c2) ∧ w'.cell? ⟨w1.heap.size, 0, none⟩ = some (.slice a1 k1 c1)) (go_keep) (first | (go_at_call 118; refine (or_env (W0 := w) (by assumption) (by assumption) (by repeat (first | exact List.Mem.head _ | apply List.Mem.tail)) (by repeat (first | exact List.Mem.head _ | apply List.Mem.tail)) (by omega)).mono ?_; rintro e w' ⟨a', k', c', rfl, HEn, HBn⟩; have q0 : w'.cell? ⟨w3.heap.size, 0, none⟩ = some (.slice a3 k3 c3) := HEn.out.1 _ (List.Mem.head _); have q1 : w'.cell? ⟨w2.heap.size, 0, none⟩ = some (.slice a2 k2 c2) := HEn.out.1 _ (List.Mem.tail _ (List.Mem.head _)); have q2 : w'.cell? ⟨w1.heap.size, 0, none⟩ = some (.slice a1 k1 c1) := HEn.out.1 _ (List.Mem.tail _ (List.Mem.tail _ (List.Mem.head _)))) | (go_at_call 119; refine (meet_env (W0 := w) (by assumption) (by assumption) (by repeat (first | exact List.Mem.head _ | apply List.Mem.tail)) (by repeat (first | exact List.Mem.head _ | apply List.Mem.tail)) (by omega)).mono ?_; rintro e w' ⟨a', k', c', rfl, HEn, HBn⟩; have q0 : w'.cell? ⟨w3.heap.size, 0, none⟩ = some (.slice a3 k3 c3) := HEn.out.1 _ (List.Mem.head _); have q1 : w'.cell? ⟨w2.heap.size, 0, none⟩ = some (.slice a2 k2 c2) := HEn.out.1 _ (List.Mem.tail _ (List.Mem.head _)); have q2 : w'.cell? ⟨w1.heap.size, 0, none⟩ = some (.slice a1 k1 c1) := HEn.out.1 _ (List.Mem.tail _ (List.Mem.tail _ (List.Mem.head _)))) | (go_at_call 120; refine (less_env (W0 := w) (by assumption) (by assumption) (by repeat (first | exact List.Mem.head _ | apply List.Mem.tail)) (by repeat (first | exact List.Mem.head _ | apply List.Mem.tail)) (by omega)).mono ?_; rintro e w' ⟨a', k', c', rfl, HEn, HBn⟩; have q0 : w'.cell? ⟨w3.heap.size, 0, none⟩ = some (.slice a3 k3 c3) := HEn.out.1 _ (List.Mem.head _); have q1 : w'.cell? ⟨w2.heap.size, 0, none⟩ = some (.slice a2 k2 c2) := HEn.out.1 _ (List.Mem.tail _ (List.Mem.head _)); have q2 : w'.cell? ⟨w1.heap.size, 0, none⟩ = some (.slice a1 k1 c1) := HEn.out.1 _ (List.Mem.tail _ (List.Mem.tail _ (List.Mem.head _)))) | (go_at_call 20; refine (same_env (W0 := w) (by assumption) (by assumption) (by repeat (first | exact List.Mem.head _ | apply List.Mem.tail)) (by repeat (first | exact List.Mem.head _ | apply List.Mem.tail)) true (sure fun q => (by first | exact prop4 | exact prop5 | exact Iff.rfl))).mono ?_; rintro e w' ⟨rfl, HEn, HBn⟩; have q0 : w'.cell? ⟨w3.heap.size, 0, none⟩ = some (.slice a3 k3 c3) := HEn.out.1 _ (List.Mem.head _); have q1 : w'.cell? ⟨w2.heap.size, 0, none⟩ = some (.slice a2 k2 c2) := HEn.out.1 _ (List.Mem.tail _ (List.Mem.head _)); have q2 : w'.cell? ⟨w1.heap.size, 0, none⟩ = some (.slice a1 k1 c1) := HEn.out.1 _ (List.Mem.tail _ (List.Mem.tail _ (List.Mem.head _)))) | (go_at_call 12; refine (spans_env (W0 := w) (by assumption) (by assumption) (by repeat (first | exact List.Mem.head _ | apply List.Mem.tail)) (by omega)).mono ?_; rintro e w' ⟨a', k', c', rfl, HEn, HBn⟩; have q0 : w'.cell? ⟨w3.heap.size, 0, none⟩ = some (.slice a3 k3 c3) := HEn.out.1 _ (List.Mem.head _); have q1 : w'.cell? ⟨w2.heap.size, 0, none⟩ = some (.slice a2 k2 c2) := HEn.out.1 _ (List.Mem.tail _ (List.Mem.head _)); have q2 : w'.cell? ⟨w1.heap.size, 0, none⟩ = some (.slice a1 k1 c1) := HEn.out.1 _ (List.Mem.tail _ (List.Mem.tail _ (List.Mem.head _)))) | (go_at_call 21; refine (ofE (W0 := w) (by assumption) (by assumption) (by repeat (first | exact List.Mem.head _ | apply List.Mem.tail)) (by omega)).mono ?_; rintro e w' ⟨a', k', c', rfl, HEn, HBn⟩; have q0 : w'.cell? ⟨w3.heap.size, 0, none⟩ = some (.slice a3 k3 c3) := HEn.out.1 _ (List.Mem.head _); have q1 : w'.cell? ⟨w2.heap.size, 0, none⟩ = some (.slice a2 k2 c2) := HEn.out.1 _ (List.Mem.tail _ (List.Mem.head _)); have q2 : w'.cell? ⟨w1.heap.size, 0, none⟩ = some (.slice a1 k1 c1) := HEn.out.1 _ (List.Mem.tail _ (List.Mem.tail _ (List.Mem.head _)))))
  have hx : bits BinOp.xor IntKind.u16 (if IntKind.u16.signed = true then -1 else IntKind.u16.max) 0 = 65535 := by decide
  obtain ⟨W6, hW6⟩ : ∃ W6, w' = W6 := ⟨_, rfl⟩
  have HE6 : Hid (∀ X Y, Env ((W6.alloc X).alloc Y) [(⟨w3.heap.size, 0, none⟩, .slice a3 k3 c3), (⟨w2.heap.size, 0, none⟩, .slice a2 k2 c2), (⟨w1.heap.size, 0, none⟩, .slice a1 k1 c1)] [(.slice a3 k3 c3, U, 2147483648), (.slice a2 k2 c2, T, 2147483648), (.slice a1 k1 c1, S, 2147483648)]) := fun X Y => (hW6 ▸ (HEn.out.drop 10).below ((Below.refl _ _).alloc (Nat.le_refl _) X)).below ((Below.refl _ _).alloc (Nat.le_refl _) Y)
  have HB6 : Hid (∀ X Y, Below w.heap.size w ((W6.alloc X).alloc Y)) := fun X Y => (hW6 ▸ HBn.out.alloc HBn.out.size X).alloc (by have := HBn.out.size; rw [hW6] at this; simp; omega) Y
  rw [hW6]
  clear HEn HBn hW6 HE4 HB4 q0 q1 q2
  go_wp2_with fail
  refine (pair_all _).mono ?_
  rintro e w' ⟨rfl, X, rfl⟩
  go_wp2_with fail
  refine (of_oneE (W0 := w) (x := 0) (y := 65535) (HE6.out X (.cells #[.int .u16 0, .int .u16 65535] 30)) (HB6.out _ _) (new2 (W := W6.alloc X) (n := W6.heap.size + 1) (by simp) _ _ _).1 (new2 (W := W6.alloc X) (n := W6.heap.size + 1) (by simp) _ _ _).2 all_fits).mono ?_
  rintro e w4 ⟨a4, k4, c4, rfl, HE, HB⟩
  obtain ⟨W8, hW8⟩ : ∃ W8, w4.alloc (.cells #[.slice a4 k4 c4] 24) = W8 := ⟨_, rfl⟩
  have HE8 : Hid (Env W8 [(⟨w4.heap.size, 0, none⟩, .slice a4 k4 c4), (⟨w3.heap.size, 0, none⟩, .slice a3 k3 c3), (⟨w2.heap.size, 0, none⟩, .slice a2 k2 c2), (⟨w1.heap.size, 0, none⟩, .slice a1 k1 c1)] [(.slice a4 k4 c4, (fun q => 0 ≤ q ∧ q ≤ 65535), 1), (.slice a3 k3 c3, U, 2147483648), (.slice a2 k2 c2, T, 2147483648), (.slice a1 k1 c1, S, 2147483648)]) := hW8 ▸ HE.out.box _ _
  have HB8 : Hid (Below w.heap.size w W8) := hW8 ▸ HB.out.alloc HB.out.size _
  have q0 : W8.cell? ⟨w4.heap.size, 0, none⟩ = some (.slice a4 k4 c4) := HE8.out.1 _ (List.Mem.head _)
  have q1 : W8.cell? ⟨w3.heap.size, 0, none⟩ = some (.slice a3 k3 c3) := HE8.out.1 _ (List.Mem.tail _ (List.Mem.head _))
  have q2 : W8.cell? ⟨w2.heap.size, 0, none⟩ = some (.slice a2 k2 c2) := HE8.out.1 _ (List.Mem.tail _ (List.Mem.tail _ (List.Mem.head _)))
  have q3 : W8.cell? ⟨w1.heap.size, 0, none⟩ = some (.slice a1 k1 c1) := HE8.out.1 _ (List.Mem.tail _ (List.Mem.tail _ (List.Mem.tail _ (List.Mem.head _))))
  clear HE HB HE6 HB6
  go_wp2_with fail
  clear hW8
  refine (less_env (W0 := w) HE8 HB8 (List.Mem.head _) (List.Mem.tail _ (List.Mem.tail _ (List.Mem.tail _ (List.Mem.head _)))) (by omega)).mono ?_
  rintro e w5 ⟨a5, k5, c5, rfl, HE, HB⟩
  obtain ⟨W9, hW9⟩ : ∃ W9, w5.alloc (.cells #[.slice a5 k5 c5] 24) = W9 := ⟨_, rfl⟩
  have HE9 : Hid (Env W9.drew [(⟨w5.heap.size, 0, none⟩, .slice a5 k5 c5), (⟨w4.heap.size, 0, none⟩, .slice a4 k4 c4), (⟨w3.heap.size, 0, none⟩, .slice a3 k3 c3), (⟨w2.heap.size, 0, none⟩, .slice a2 k2 c2), (⟨w1.heap.size, 0, none⟩, .slice a1 k1 c1)] [(.slice a5 k5 c5, (fun q => (0 ≤ q ∧ q ≤ 65535) ∧ ¬ S q), 4294967299), (.slice a4 k4 c4, (fun q => 0 ≤ q ∧ q ≤ 65535), 1), (.slice a3 k3 c3, U, 2147483648), (.slice a2 k2 c2, T, 2147483648), (.slice a1 k1 c1, S, 2147483648)]) := hW9 ▸ HE.out.box _ _
  have HB9 : Hid (Below w.heap.size w W9.drew) := hW9 ▸ (HB.out.alloc HB.out.size _).drew
  have q0 : W9.cell? ⟨w5.heap.size, 0, none⟩ = some (.slice a5 k5 c5) := HE9.out.1 _ (List.Mem.head _)
  have q1 : W9.cell? ⟨w4.heap.size, 0, none⟩ = some (.slice a4 k4 c4) := HE9.out.1 _ (List.Mem.tail _ (List.Mem.head _))
  have q2 : W9.cell? ⟨w3.heap.size, 0, none⟩ = some (.slice a3 k3 c3) := HE9.out.1 _ (List.Mem.tail _ (List.Mem.tail _ (List.Mem.head _)))
  have q3 : W9.cell? ⟨w2.heap.size, 0, none⟩ = some (.slice a2 k2 c2) := HE9.out.1 _ (List.Mem.tail _ (List.Mem.tail _ (List.Mem.tail _ (List.Mem.head _))))
  have q4 : W9.cell? ⟨w1.heap.size, 0, none⟩ = some (.slice a1 k1 c1) := HE9.out.1 _ (List.Mem.tail _ (List.Mem.tail _ (List.Mem.tail _ (List.Mem.tail _ (List.Mem.head _)))))
  clear HE HB HE8 HB8
  obtain ⟨bS, hbS⟩ : ∃ b : Bool, b = true ↔ S p := ⟨decide' (S p), decide_iff⟩
  have HbS : Hid (bS = true ↔ S p) := hbS
  have hne : (!bS == bS) = false := by cases bS <;> rfl
  have hne' : ((!bS) == bS) = false := by cases bS <;> rfl
  clear hbS
  go_wp2_with fail
  clear hW9
  go_region_held3 (fun w' => w'.cell? ⟨w5.heap.size, 0, none⟩ = some (.slice a5 k5 c5) ∧ w'.cell? ⟨w4.heap.size, 0, none⟩ = some (.slice a4 k4 c4) ∧ w'.cell? ⟨w3.heap.size, 0, none⟩ = some (.slice a3 k3 c3) ∧ w'.cell? ⟨w2.heap.size, 0, none⟩ = some (.slice a2 k2 c2) ∧ w'.cell? ⟨w1.heap.size, 0, none⟩ = some (.slice a1 k1 c1)) (go_keep) (first | (go_at_call 120; refine (less_env (W0 := w) (by assumption) (by assumption) (by repeat (first | exact List.Mem.head _ | apply List.Mem.tail)) (by repeat (first | exact List.Mem.head _ | apply List.Mem.tail)) (by omega)).mono ?_; rintro e w' ⟨a', k', c', rfl, HEn, HBn⟩; have q0 : w'.cell? ⟨w5.heap.size, 0, none⟩ = some (.slice a5 k5 c5) := HEn.out.1 _ (List.Mem.head _); have q1 : w'.cell? ⟨w4.heap.size, 0, none⟩ = some (.slice a4 k4 c4) := HEn.out.1 _ (List.Mem.tail _ (List.Mem.head _)); have q2 : w'.cell? ⟨w3.heap.size, 0, none⟩ = some (.slice a3 k3 c3) := HEn.out.1 _ (List.Mem.tail _ (List.Mem.tail _ (List.Mem.head _))); have q3 : w'.cell? ⟨w2.heap.size, 0, none⟩ = some (.slice a2 k2 c2) := HEn.out.1 _ (List.Mem.tail _ (List.Mem.tail _ (List.Mem.tail _ (List.Mem.head _)))); have q4 : w'.cell? ⟨w1.heap.size, 0, none⟩ = some (.slice a1 k1 c1) := HEn.out.1 _ (List.Mem.tail _ (List.Mem.tail _ (List.Mem.tail _ (List.Mem.tail _ (List.Mem.head _)))))) | (go_at_call 119; refine (meet_env (W0 := w) (by assumption) (by assumption) (by repeat (first | exact List.Mem.head _ | apply List.Mem.tail)) (by repeat (first | exact List.Mem.head _ | apply List.Mem.tail)) (by omega)).mono ?_; rintro e w' ⟨a', k', c', rfl, HEn, HBn⟩; have q0 : w'.cell? ⟨w5.heap.size, 0, none⟩ = some (.slice a5 k5 c5) := HEn.out.1 _ (List.Mem.head _); have q1 : w'.cell? ⟨w4.heap.size, 0, none⟩ = some (.slice a4 k4 c4) := HEn.out.1 _ (List.Mem.tail _ (List.Mem.head _)); have q2 : w'.cell? ⟨w3.heap.size, 0, none⟩ = some (.slice a3 k3 c3) := HEn.out.1 _ (List.Mem.tail _ (List.Mem.tail _ (List.Mem.head _))); have q3 : w'.cell? ⟨w2.heap.size, 0, none⟩ = some (.slice a2 k2 c2) := HEn.out.1 _ (List.Mem.tail _ (List.Mem.tail _ (List.Mem.tail _ (List.Mem.head _)))); have q4 : w'.cell? ⟨w1.heap.size, 0, none⟩ = some (.slice a1 k1 c1) := HEn.out.1 _ (List.Mem.tail _ (List.Mem.tail _ (List.Mem.tail _ (List.Mem.tail _ (List.Mem.head _)))))) | (go_at_call 20; refine (same_env (W0 := w) (by assumption) (by assumption) (by repeat (first | exact List.Mem.head _ | apply List.Mem.tail)) (by repeat (first | exact List.Mem.head _ | apply List.Mem.tail)) true (sure fun q => (by first | exact prop7 (HSr.out q) | exact prop8))).mono ?_; rintro e w' ⟨rfl, HEn, HBn⟩; have q0 : w'.cell? ⟨w5.heap.size, 0, none⟩ = some (.slice a5 k5 c5) := HEn.out.1 _ (List.Mem.head _); have q1 : w'.cell? ⟨w4.heap.size, 0, none⟩ = some (.slice a4 k4 c4) := HEn.out.1 _ (List.Mem.tail _ (List.Mem.head _)); have q2 : w'.cell? ⟨w3.heap.size, 0, none⟩ = some (.slice a3 k3 c3) := HEn.out.1 _ (List.Mem.tail _ (List.Mem.tail _ (List.Mem.head _))); have q3 : w'.cell? ⟨w2.heap.size, 0, none⟩ = some (.slice a2 k2 c2) := HEn.out.1 _ (List.Mem.tail _ (List.Mem.tail _ (List.Mem.tail _ (List.Mem.head _)))); have q4 : w'.cell? ⟨w1.heap.size, 0, none⟩ = some (.slice a1 k1 c1) := HEn.out.1 _ (List.Mem.tail _ (List.Mem.tail _ (List.Mem.tail _ (List.Mem.tail _ (List.Mem.head _)))))) | (go_at_call 9; refine (has_env (W0 := w) (by assumption) (by assumption) (by repeat (first | exact List.Mem.head _ | apply List.Mem.tail)) (by omega) bS (HbS.out)).mono ?_; rintro e w' ⟨rfl, HEn, HBn⟩; have q0 : w'.cell? ⟨w5.heap.size, 0, none⟩ = some (.slice a5 k5 c5) := HEn.out.1 _ (List.Mem.head _); have q1 : w'.cell? ⟨w4.heap.size, 0, none⟩ = some (.slice a4 k4 c4) := HEn.out.1 _ (List.Mem.tail _ (List.Mem.head _)); have q2 : w'.cell? ⟨w3.heap.size, 0, none⟩ = some (.slice a3 k3 c3) := HEn.out.1 _ (List.Mem.tail _ (List.Mem.tail _ (List.Mem.head _))); have q3 : w'.cell? ⟨w2.heap.size, 0, none⟩ = some (.slice a2 k2 c2) := HEn.out.1 _ (List.Mem.tail _ (List.Mem.tail _ (List.Mem.tail _ (List.Mem.head _)))); have q4 : w'.cell? ⟨w1.heap.size, 0, none⟩ = some (.slice a1 k1 c1) := HEn.out.1 _ (List.Mem.tail _ (List.Mem.tail _ (List.Mem.tail _ (List.Mem.tail _ (List.Mem.head _)))))) | (go_at_call 9; refine (has_env (W0 := w) (by assumption) (by assumption) (by repeat (first | exact List.Mem.head _ | apply List.Mem.tail)) (by omega) (!bS) (not_iff hp HbS.out)).mono ?_; rintro e w' ⟨rfl, HEn, HBn⟩; have q0 : w'.cell? ⟨w5.heap.size, 0, none⟩ = some (.slice a5 k5 c5) := HEn.out.1 _ (List.Mem.head _); have q1 : w'.cell? ⟨w4.heap.size, 0, none⟩ = some (.slice a4 k4 c4) := HEn.out.1 _ (List.Mem.tail _ (List.Mem.head _)); have q2 : w'.cell? ⟨w3.heap.size, 0, none⟩ = some (.slice a3 k3 c3) := HEn.out.1 _ (List.Mem.tail _ (List.Mem.tail _ (List.Mem.head _))); have q3 : w'.cell? ⟨w2.heap.size, 0, none⟩ = some (.slice a2 k2 c2) := HEn.out.1 _ (List.Mem.tail _ (List.Mem.tail _ (List.Mem.tail _ (List.Mem.head _)))); have q4 : w'.cell? ⟨w1.heap.size, 0, none⟩ = some (.slice a1 k1 c1) := HEn.out.1 _ (List.Mem.tail _ (List.Mem.tail _ (List.Mem.tail _ (List.Mem.tail _ (List.Mem.head _)))))) | (go_at_call 21; refine (of_nilE (W0 := w) (by assumption) (by assumption)).mono ?_; rintro e w' ⟨a', k', c', rfl, HEn, HBn⟩; have q0 : w'.cell? ⟨w5.heap.size, 0, none⟩ = some (.slice a5 k5 c5) := HEn.out.1 _ (List.Mem.head _); have q1 : w'.cell? ⟨w4.heap.size, 0, none⟩ = some (.slice a4 k4 c4) := HEn.out.1 _ (List.Mem.tail _ (List.Mem.head _)); have q2 : w'.cell? ⟨w3.heap.size, 0, none⟩ = some (.slice a3 k3 c3) := HEn.out.1 _ (List.Mem.tail _ (List.Mem.tail _ (List.Mem.head _))); have q3 : w'.cell? ⟨w2.heap.size, 0, none⟩ = some (.slice a2 k2 c2) := HEn.out.1 _ (List.Mem.tail _ (List.Mem.tail _ (List.Mem.tail _ (List.Mem.head _)))); have q4 : w'.cell? ⟨w1.heap.size, 0, none⟩ = some (.slice a1 k1 c1) := HEn.out.1 _ (List.Mem.tail _ (List.Mem.tail _ (List.Mem.tail _ (List.Mem.tail _ (List.Mem.head _)))))))
  obtain ⟨W10, hW10⟩ : ∃ W10, w' = W10 := ⟨_, rfl⟩
  have HE10 : Hid (Env W10 [(⟨w5.heap.size, 0, none⟩, .slice a5 k5 c5), (⟨w4.heap.size, 0, none⟩, .slice a4 k4 c4), (⟨w3.heap.size, 0, none⟩, .slice a3 k3 c3), (⟨w2.heap.size, 0, none⟩, .slice a2 k2 c2), (⟨w1.heap.size, 0, none⟩, .slice a1 k1 c1)] [(.slice a5 k5 c5, (fun q => (0 ≤ q ∧ q ≤ 65535) ∧ ¬ S q), 4294967299), (.slice a4 k4 c4, (fun q => 0 ≤ q ∧ q ≤ 65535), 1), (.slice a3 k3 c3, U, 2147483648), (.slice a2 k2 c2, T, 2147483648), (.slice a1 k1 c1, S, 2147483648)]) := hW10 ▸ HEn.out.drop 3
  have HB10 : Hid (Below w.heap.size w W10) := hW10 ▸ HBn.out
  rw [hW10]
  clear HEn HBn hW10 HE9 HB9 q0 q1 q2 q3 q4
  obtain ⟨W11, hW11⟩ : ∃ W11, W10.alloc (.cells #[.int .u16 p, .int .u16 65535] 30) = W11 := ⟨_, rfl⟩
  have HE11 : Hid (Env W11.drew [(⟨W10.heap.size, 0, none⟩, .int .u16 p), (⟨W10.heap.size, 1, none⟩, .int .u16 65535), (⟨w5.heap.size, 0, none⟩, .slice a5 k5 c5), (⟨w4.heap.size, 0, none⟩, .slice a4 k4 c4), (⟨w3.heap.size, 0, none⟩, .slice a3 k3 c3), (⟨w2.heap.size, 0, none⟩, .slice a2 k2 c2), (⟨w1.heap.size, 0, none⟩, .slice a1 k1 c1)] [(.slice a5 k5 c5, (fun q => (0 ≤ q ∧ q ≤ 65535) ∧ ¬ S q), 4294967299), (.slice a4 k4 c4, (fun q => 0 ≤ q ∧ q ≤ 65535), 1), (.slice a3 k3 c3, U, 2147483648), (.slice a2 k2 c2, T, 2147483648), (.slice a1 k1 c1, S, 2147483648)]) := hW11 ▸ HE10.out.box2 _ _ _
  have HB11 : Hid (Below w.heap.size w W11.drew) := hW11 ▸ (HB10.out.alloc HB10.out.size _).drew
  have q0 : W11.cell? ⟨W10.heap.size, 0, none⟩ = some (.int .u16 p) := HE11.out.1 _ (List.Mem.head _)
  have q1 : W11.cell? ⟨W10.heap.size, 1, none⟩ = some (.int .u16 65535) := HE11.out.1 _ (List.Mem.tail _ (List.Mem.head _))
  have q2 : W11.cell? ⟨w5.heap.size, 0, none⟩ = some (.slice a5 k5 c5) := HE11.out.1 _ (List.Mem.tail _ (List.Mem.tail _ (List.Mem.head _)))
  have q3 : W11.cell? ⟨w1.heap.size, 0, none⟩ = some (.slice a1 k1 c1) := HE11.out.1 _ (List.Mem.tail _ (List.Mem.tail _ (List.Mem.tail _ (List.Mem.tail _ (List.Mem.tail _ (List.Mem.tail _ (List.Mem.head _)))))))
  clear HE10 HB10
  obtain ⟨bT, hbT⟩ : ∃ b : Bool, b = true ↔ ∃ q, p ≤ q ∧ q ≤ 65535 ∧ S q := ⟨decide' _, decide_iff⟩
  obtain ⟨bC, hbC⟩ : ∃ b : Bool, b = true ↔ ∀ q, p ≤ q → q ≤ 65535 → S q := ⟨decide' _, decide_iff⟩
  have HbT : Hid (bT = true ↔ ∃ q, p ≤ q ∧ q ≤ 65535 ∧ S q) := hbT
  have HbC : Hid (bC = true ↔ ∀ q, p ≤ q → q ≤ 65535 → S q) := hbC
  have t1 : (bT != !bT) = true := by cases bT <;> rfl
  have t2 : (bT == !bT) = false := by cases bT <;> rfl
  have t3 : (bC != !bC) = true := by cases bC <;> rfl
  have t4 : (bC == !bC) = false := by cases bC <;> rfl
  clear hbT hbC hne hne' HbS
  go_wp2_with fail
  clear hW11
  go_region_held3 (fun w' => w'.cell? ⟨W10.heap.size, 0, none⟩ = some (.int .u16 p) ∧ w'.cell? ⟨W10.heap.size, 1, none⟩ = some (.int .u16 65535) ∧ w'.cell? ⟨w5.heap.size, 0, none⟩ = some (.slice a5 k5 c5) ∧ w'.cell? ⟨w1.heap.size, 0, none⟩ = some (.slice a1 k1 c1)) (go_keep) (first | (go_at_call 11; refine (touches_env (W0 := w) (by assumption) (by assumption) (by repeat (first | exact List.Mem.head _ | apply List.Mem.tail)) (by omega) bT (HbT.out)).mono ?_; rintro e w' ⟨rfl, HEn, HBn⟩; have q0 : w'.cell? ⟨W10.heap.size, 0, none⟩ = some (.int .u16 p) := HEn.out.1 _ (List.Mem.head _); have q1 : w'.cell? ⟨W10.heap.size, 1, none⟩ = some (.int .u16 65535) := HEn.out.1 _ (List.Mem.tail _ (List.Mem.head _)); have q2 : w'.cell? ⟨w5.heap.size, 0, none⟩ = some (.slice a5 k5 c5) := HEn.out.1 _ (List.Mem.tail _ (List.Mem.tail _ (List.Mem.head _))); have q3 : w'.cell? ⟨w1.heap.size, 0, none⟩ = some (.slice a1 k1 c1) := HEn.out.1 _ (List.Mem.tail _ (List.Mem.tail _ (List.Mem.tail _ (List.Mem.tail _ (List.Mem.tail _ (List.Mem.tail _ (List.Mem.head _)))))))) | (go_at_call 10; refine (covers_env (W0 := w) (by assumption) (by assumption) (by repeat (first | exact List.Mem.head _ | apply List.Mem.tail)) (by omega) (!bT) (notT hp HbT.out)).mono ?_; rintro e w' ⟨rfl, HEn, HBn⟩; have q0 : w'.cell? ⟨W10.heap.size, 0, none⟩ = some (.int .u16 p) := HEn.out.1 _ (List.Mem.head _); have q1 : w'.cell? ⟨W10.heap.size, 1, none⟩ = some (.int .u16 65535) := HEn.out.1 _ (List.Mem.tail _ (List.Mem.head _)); have q2 : w'.cell? ⟨w5.heap.size, 0, none⟩ = some (.slice a5 k5 c5) := HEn.out.1 _ (List.Mem.tail _ (List.Mem.tail _ (List.Mem.head _))); have q3 : w'.cell? ⟨w1.heap.size, 0, none⟩ = some (.slice a1 k1 c1) := HEn.out.1 _ (List.Mem.tail _ (List.Mem.tail _ (List.Mem.tail _ (List.Mem.tail _ (List.Mem.tail _ (List.Mem.tail _ (List.Mem.head _)))))))) | (go_at_call 10; refine (covers_env (W0 := w) (by assumption) (by assumption) (by repeat (first | exact List.Mem.head _ | apply List.Mem.tail)) (by omega) bC (HbC.out)).mono ?_; rintro e w' ⟨rfl, HEn, HBn⟩; have q0 : w'.cell? ⟨W10.heap.size, 0, none⟩ = some (.int .u16 p) := HEn.out.1 _ (List.Mem.head _); have q1 : w'.cell? ⟨W10.heap.size, 1, none⟩ = some (.int .u16 65535) := HEn.out.1 _ (List.Mem.tail _ (List.Mem.head _)); have q2 : w'.cell? ⟨w5.heap.size, 0, none⟩ = some (.slice a5 k5 c5) := HEn.out.1 _ (List.Mem.tail _ (List.Mem.tail _ (List.Mem.head _))); have q3 : w'.cell? ⟨w1.heap.size, 0, none⟩ = some (.slice a1 k1 c1) := HEn.out.1 _ (List.Mem.tail _ (List.Mem.tail _ (List.Mem.tail _ (List.Mem.tail _ (List.Mem.tail _ (List.Mem.tail _ (List.Mem.head _)))))))) | (go_at_call 11; refine (touches_env (W0 := w) (by assumption) (by assumption) (by repeat (first | exact List.Mem.head _ | apply List.Mem.tail)) (by omega) (!bC) (notC hp HbC.out)).mono ?_; rintro e w' ⟨rfl, HEn, HBn⟩; have q0 : w'.cell? ⟨W10.heap.size, 0, none⟩ = some (.int .u16 p) := HEn.out.1 _ (List.Mem.head _); have q1 : w'.cell? ⟨W10.heap.size, 1, none⟩ = some (.int .u16 65535) := HEn.out.1 _ (List.Mem.tail _ (List.Mem.head _)); have q2 : w'.cell? ⟨w5.heap.size, 0, none⟩ = some (.slice a5 k5 c5) := HEn.out.1 _ (List.Mem.tail _ (List.Mem.tail _ (List.Mem.head _))); have q3 : w'.cell? ⟨w1.heap.size, 0, none⟩ = some (.slice a1 k1 c1) := HEn.out.1 _ (List.Mem.tail _ (List.Mem.tail _ (List.Mem.tail _ (List.Mem.tail _ (List.Mem.tail _ (List.Mem.tail _ (List.Mem.head _)))))))) | (go_at_call 121; refine (with_env (W0 := w) (by assumption) (by assumption) (by repeat (first | exact List.Mem.head _ | apply List.Mem.tail)) (by omega) (x_fits hp)).mono ?_; rintro e w' ⟨a', k', c', rfl, HEn, HBn⟩; have q0 : w'.cell? ⟨W10.heap.size, 0, none⟩ = some (.int .u16 p) := HEn.out.1 _ (List.Mem.head _); have q1 : w'.cell? ⟨W10.heap.size, 1, none⟩ = some (.int .u16 65535) := HEn.out.1 _ (List.Mem.tail _ (List.Mem.head _)); have q2 : w'.cell? ⟨w5.heap.size, 0, none⟩ = some (.slice a5 k5 c5) := HEn.out.1 _ (List.Mem.tail _ (List.Mem.tail _ (List.Mem.head _))); have q3 : w'.cell? ⟨w1.heap.size, 0, none⟩ = some (.slice a1 k1 c1) := HEn.out.1 _ (List.Mem.tail _ (List.Mem.tail _ (List.Mem.tail _ (List.Mem.tail _ (List.Mem.tail _ (List.Mem.tail _ (List.Mem.head _)))))))) | (go_at_call 122; refine (without_env (W0 := w) (by assumption) (by assumption) (by repeat (first | exact List.Mem.head _ | apply List.Mem.tail)) (by omega) (x_fits hp)).mono ?_; rintro e w' ⟨a', k', c', rfl, HEn, HBn⟩; have q0 : w'.cell? ⟨W10.heap.size, 0, none⟩ = some (.int .u16 p) := HEn.out.1 _ (List.Mem.head _); have q1 : w'.cell? ⟨W10.heap.size, 1, none⟩ = some (.int .u16 65535) := HEn.out.1 _ (List.Mem.tail _ (List.Mem.head _)); have q2 : w'.cell? ⟨w5.heap.size, 0, none⟩ = some (.slice a5 k5 c5) := HEn.out.1 _ (List.Mem.tail _ (List.Mem.tail _ (List.Mem.head _))); have q3 : w'.cell? ⟨w1.heap.size, 0, none⟩ = some (.slice a1 k1 c1) := HEn.out.1 _ (List.Mem.tail _ (List.Mem.tail _ (List.Mem.tail _ (List.Mem.tail _ (List.Mem.tail _ (List.Mem.tail _ (List.Mem.head _)))))))) | (go_at_call 10; refine (covers_env (W0 := w) (by assumption) (by assumption) (by repeat (first | exact List.Mem.head _ | apply List.Mem.tail)) (by omega) true (withC)).mono ?_; rintro e w' ⟨rfl, HEn, HBn⟩; have q0 : w'.cell? ⟨W10.heap.size, 0, none⟩ = some (.int .u16 p) := HEn.out.1 _ (List.Mem.head _); have q1 : w'.cell? ⟨W10.heap.size, 1, none⟩ = some (.int .u16 65535) := HEn.out.1 _ (List.Mem.tail _ (List.Mem.head _)); have q2 : w'.cell? ⟨w5.heap.size, 0, none⟩ = some (.slice a5 k5 c5) := HEn.out.1 _ (List.Mem.tail _ (List.Mem.tail _ (List.Mem.head _))); have q3 : w'.cell? ⟨w1.heap.size, 0, none⟩ = some (.slice a1 k1 c1) := HEn.out.1 _ (List.Mem.tail _ (List.Mem.tail _ (List.Mem.tail _ (List.Mem.tail _ (List.Mem.tail _ (List.Mem.tail _ (List.Mem.head _)))))))) | (go_at_call 11; refine (touches_env (W0 := w) (by assumption) (by assumption) (by repeat (first | exact List.Mem.head _ | apply List.Mem.tail)) (by omega) false (withoutT)).mono ?_; rintro e w' ⟨rfl, HEn, HBn⟩; have q0 : w'.cell? ⟨W10.heap.size, 0, none⟩ = some (.int .u16 p) := HEn.out.1 _ (List.Mem.head _); have q1 : w'.cell? ⟨W10.heap.size, 1, none⟩ = some (.int .u16 65535) := HEn.out.1 _ (List.Mem.tail _ (List.Mem.head _)); have q2 : w'.cell? ⟨w5.heap.size, 0, none⟩ = some (.slice a5 k5 c5) := HEn.out.1 _ (List.Mem.tail _ (List.Mem.tail _ (List.Mem.head _))); have q3 : w'.cell? ⟨w1.heap.size, 0, none⟩ = some (.slice a1 k1 c1) := HEn.out.1 _ (List.Mem.tail _ (List.Mem.tail _ (List.Mem.tail _ (List.Mem.tail _ (List.Mem.tail _ (List.Mem.tail _ (List.Mem.head _)))))))))
  go_wp2_with fail
  go_ret
  exact ⟨rfl, HBn.out⟩
end Go.Proofs.YtlndphdgodmgpaaGreat.U16
