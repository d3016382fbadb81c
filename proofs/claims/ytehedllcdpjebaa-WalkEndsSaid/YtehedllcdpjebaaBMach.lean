/- A machine in memory; what it tells by itself. Own work. -/
import Derived.Test.YtehedllcdpjebaaBRead
import Derived.Test.YtehedllcdpjebaaSpBaseU64
import Derived.Test.YtehedllcdpjebaaSpNumU64
import Derived.Test.YtehedllcdpjebaaSpMath2
namespace Go.Proofs.Ytehedllcdpjebaa
open Go.RowKit Go.Maps Go.Proofs.Ytehedllcdpjebaa.Sp
theorem U64.SV.keeps {S : Nat → Prop} {w w' : World} {v : Value} {xs : List Sp} (h : U64.SV w v xs) (hk : Keeps S w w') (hn : ∀ j, v.ownBlock = some j → ¬ S j) : U64.SV w' v xs := by
  obtain ⟨ao, cap, rfl, h1, h2, h3, h4, h5⟩ := h
  refine ⟨ao, cap, rfl, h1, h2, h3, fun a e => (h4 a e).imp fun g ⟨off, e, hl⟩ => ⟨off, e, Nat.lt_of_lt_of_le hl hk.size⟩, fun j hj => ?_⟩
  obtain ⟨g, off, e, c0, c1⟩ := h5 j hj
  obtain ⟨g', off', e', hg⟩ := h4 _ e
  cases e'
  have hb : w'.heap[g]? = w.heap[g]? := hk.block g hg (hn g (by rw [e]; rfl))
  refine ⟨g, off, e, ?_, ?_⟩
  · rw [World.cell?_of_block (w := w) (a := ⟨g, off + j * 2, none⟩) hb]; exact c0
  · rw [World.cell?_of_block (w := w) (a := ⟨g, off + j * 2 + 1, none⟩) hb]; exact c1
/-- the byte p lies in one of the ranges -/
def On (rs : List Sp) (p : Int) : Prop := ∃ r ∈ rs, r.1 ≤ p ∧ p < r.1 + r.2
/-- ranges that a machine may have -/
def Sane (rs : List Sp) : Prop := ∀ r ∈ rs, 0 ≤ r.1 ∧ 0 < r.2 ∧ r.1 + r.2 ≤ 4294967296
/-- block m is a machine: what its meter tells, its lists, where its map and its pages lie, its bytes -/
def Mac (w : World) (m B : Nat) (V : Value × Value × Value) (T : Nat → Option Nat) (M : Nat → Nat) (rs ds : List Sp) (L S X : Nat) : Prop :=
  ∃ G, w.heap[m]? = some (.cells #[.int .i64 (L : Int), .int .i64 (S : Int), .int .i64 (X : Int), V.1, V.2.1, V.2.2, .map (some B)] 89 (0, 0)) ∧ U64.SV w V.1 rs ∧ U64.SV w V.2.1 ds ∧ U64.SV w V.2.2 G ∧
    Canon 18446744073709551615 G ∧ (∀ p, In p G ↔ On (rs ++ ds) p) ∧ Sane (rs ++ ds) ∧ G.length ≤ 64 ∧ Held w B T M ∧ ¬ Foot B T m ∧ ∀ v, v = V.1 ∨ v = V.2.1 ∨ v = V.2.2 → ∀ j, v.ownBlock = some j → ¬ Foot B T j ∧ j ≠ m
/-- the blocks that are the machine's own -/
def Mine (m B : Nat) (V : Value × Value × Value) (T : Nat → Option Nat) (j : Nat) : Prop := j = m ∨ Foot B T j ∨ ∃ v, (v = V.1 ∨ v = V.2.1 ∨ v = V.2.2) ∧ v.ownBlock = some j
theorem Mac.lt {w : World} {m B : Nat} {V : Value × Value × Value} {T : Nat → Option Nat} {M : Nat → Nat} {rs ds : List Sp} {L S X : Nat} (h : Mac w m B V T M rs ds L S X) : m < w.heap.size := by
  obtain ⟨_, h, _⟩ := h
  exact (Array.getElem?_eq_some_iff.1 h).1
theorem sv_lt {w : World} {v : Value} {xs : List Sp} (hv : U64.SV w v xs) (j : Nat) (hj : v.ownBlock = some j) : j < w.heap.size := by
  obtain ⟨ao, cap, rfl, _, _, _, hh, _⟩ := hv
  cases ao with
  | none => cases hj
  | some a =>
    obtain ⟨g, off, rfl, hg⟩ := hh _ rfl
    cases hj
    exact hg
theorem Mac.mine_lt {w : World} {m B : Nat} {V : Value × Value × Value} {T : Nat → Option Nat} {M : Nat → Nat} {rs ds : List Sp} {L S X : Nat} (h : Mac w m B V T M rs ds L S X) {j : Nat} (hj : Mine m B V T j) : j < w.heap.size := by
  have hlt := h.lt
  obtain ⟨G, h0, h1, h2, h3, h4, h5, h6, h7, h8, h9, h10⟩ := h
  rcases hj with rfl | hj | ⟨v, rfl | rfl | rfl, e⟩
  · exact hlt
  · exact h8.foot_lt hj
  · exact sv_lt h1 j e
  · exact sv_lt h2 j e
  · exact sv_lt h3 j e
theorem Mac.keeps {Z : Nat → Prop} {w w' : World} {m B : Nat} {V : Value × Value × Value} {T : Nat → Option Nat} {M : Nat → Nat} {rs ds : List Sp} {L S X : Nat} (h : Mac w m B V T M rs ds L S X) (hk : Keeps Z w w') (hn : ∀ j, Mine m B V T j → ¬ Z j) : Mac w' m B V T M rs ds L S X := by
  have hlt := h.lt
  obtain ⟨G, h0, h1, h2, h3, h4, h5, h6, h7, h8, h9, h10⟩ := h
  exact ⟨G, (hk.block m hlt (hn m (.inl rfl))).trans h0, h1.keeps hk (fun j e => hn j (.inr (.inr ⟨_, .inl rfl, e⟩))), h2.keeps hk (fun j e => hn j (.inr (.inr ⟨_, .inr (.inl rfl), e⟩))), h3.keeps hk (fun j e => hn j (.inr (.inr ⟨_, .inr (.inr rfl), e⟩))), h4, h5, h6, h7, h8.keeps hk (fun j hj => hn j (.inr (.inl hj))), h9, h10⟩
theorem Mac.below {w w' : World} {m B : Nat} {V : Value × Value × Value} {T : Nat → Option Nat} {M : Nat → Nat} {rs ds : List Sp} {L S X : Nat} (h : Mac w m B V T M rs ds L S X) (hb : Below w.heap.size w w') : Mac w' m B V T M rs ds L S X :=
  h.keeps (Keeps.of_below (S := fun _ => False) hb) (fun _ _ h => h)
/-- the pages have changed, the machine's own blocks have not -/
theorem Mac.laid {w w' : World} {m B : Nat} {V : Value × Value × Value} {T T' : Nat → Option Nat} {M M' : Nat → Nat} {rs ds : List Sp} {L S X : Nat} (h : Mac w m B V T M rs ds L S X) (hH : Held w' B T' M') (hk : Keeps (Foot B T) w w') (hG : Grows w.heap.size T T') : Mac w' m B V T' M' rs ds L S X := by
  have hlt := h.lt
  have hmine := fun j => h.mine_lt (j := j)
  obtain ⟨G, h0, h1, h2, h3, h4, h5, h6, h7, h8, h9, h10⟩ := h
  exact ⟨G, (hk.block m hlt h9).trans h0, h1.keeps hk (fun j e => (h10 _ (.inl rfl) j e).1), h2.keeps hk (fun j e => (h10 _ (.inr (.inl rfl)) j e).1), h3.keeps hk (fun j e => (h10 _ (.inr (.inr rfl)) j e).1), h4, h5, h6, h7, hH, fun hf => h9 (hG.foot hf hlt), fun v hv j e => ⟨fun hf => (h10 v hv j e).1 (hG.foot hf (hmine j (.inr (.inr ⟨v, hv, e⟩)))), (h10 v hv j e).2⟩⟩
/-- only the machine's own block has changed, and in it only the meter -/
theorem Mac.recount {w w' : World} {m B : Nat} {V : Value × Value × Value} {T : Nat → Option Nat} {M : Nat → Nat} {rs ds : List Sp} {L S X L' S' X' : Nat} (h : Mac w m B V T M rs ds L S X) (hk : Keeps (fun j => j = m) w w')
    (hm : w.heap[m]? = some (.cells #[.int .i64 (L : Int), .int .i64 (S : Int), .int .i64 (X : Int), V.1, V.2.1, V.2.2, .map (some B)] 89 (0, 0)) → w'.heap[m]? = some (.cells #[.int .i64 (L' : Int), .int .i64 (S' : Int), .int .i64 (X' : Int), V.1, V.2.1, V.2.2, .map (some B)] 89 (0, 0))) : Mac w' m B V T M rs ds L' S' X' := by
  obtain ⟨G, h0, h1, h2, h3, h4, h5, h6, h7, h8, h9, h10⟩ := h
  exact ⟨G, hm h0, h1.keeps hk (fun j e => (h10 _ (.inl rfl) j e).2), h2.keeps hk (fun j e => (h10 _ (.inr (.inl rfl)) j e).2), h3.keeps hk (fun j e => (h10 _ (.inr (.inr rfl)) j e).2), h4, h5, h6, h7, h8.keeps hk (fun j hj e => h9 (by rw [← e]; exact hj)), h9, h10⟩
theorem Mac.cells {w : World} {m B : Nat} {V : Value × Value × Value} {T : Nat → Option Nat} {M : Nat → Nat} {rs ds : List Sp} {L S X : Nat} (h : Mac w m B V T M rs ds L S X) :
    w.cell? ⟨m, 0, none⟩ = some (.int .i64 (L : Int)) ∧ w.cell? ⟨m, 1, none⟩ = some (.int .i64 (S : Int)) ∧ w.cell? ⟨m, 2, none⟩ = some (.int .i64 (X : Int)) ∧ w.cell? ⟨m, 6, none⟩ = some (.map (some B)) ∧ ∀ i, w.frozen? ⟨m, i, none⟩ = false := by
  obtain ⟨G, h0, _⟩ := h
  refine ⟨?_, ?_, ?_, ?_, fun i => by simp [World.frozen?, h0]⟩ <;> rw [cell_of_row w m _ _ _ _ h0] <;> rfl
theorem wpList_len_pages {w : World} {ops : Array Oper} {rest : List Oper} {o : Oper} {a : Act} {Q : Exit → Act → World → Prop} (hgd : o.guard = none) (x : Operand) (ho : o.op = .call { callee := .builtin .len, args := #[x], argTypes := #[85] })
    {B c : Nat} {T : Nat → Option Nat} (hx : a.eval x = .map (some B)) (hM : MapT w B T c) (h : wpList Try.prog ops Q rest (a.put o.dst (.int .i64 (c : Int))) w) : wpList Try.prog ops Q (o :: rest) a w := by
  refine wpList_plain hgd fun K hK => ?_
  unfold Oper.wp
  simp [execOp, ho, resolve, invoke, builtin, hx, hM.len o.type, Result.andThen]
  exact hK _ _ h
theorem Mac.held {w : World} {m B : Nat} {V : Value × Value × Value} {T : Nat → Option Nat} {M : Nat → Nat} {rs ds : List Sp} {L S X : Nat} (h : Mac w m B V T M rs ds L S X) : Held w B T M := by
  obtain ⟨_, _, _, _, _, _, _, _, _, h8, _⟩ := h
  exact h8
end Go.Proofs.Ytehedllcdpjebaa
