import Derived.Test.YtddgoncbdlhhhaaGreatR05
import Derived.Test.YtddgoncbdlhhhaaGreatR02
import Derived.Test.YtddgoncbdlhhhaaGreatRows
import Derived.Deep.Slices
import Derived.SizedLaws
import Derived.WalkKit
import Derived.ProofKit
import Derived.OpenShut
import Derived.ShutString
import Derived.ChangeOld
import Derived.Below
/- How many points there are; the longest span. Plain mathematics. Own work. -/
namespace Go.Proofs.YtddgoncbdlhhhaaGreat.Sp

/-- How many points. -/
def tot : List Sp → Int
  | [] => 0
  | x :: r => (x.2 - x.1 + 1) + tot r
theorem tot_append (xs ys : List Sp) : tot (xs ++ ys) = tot xs + tot ys := by
  induction xs with
  | nil => simp [tot]
  | cons x r ih => simp only [List.cons_append, tot, ih]; omega
theorem tot_le {m lo hi : Int} : ∀ {xs : List Sp}, Canon m xs → (∀ x ∈ xs, lo ≤ x.1 ∧ x.2 < hi) → lo ≤ hi → tot xs ≤ hi - lo
  | [], _, _, h => by simp only [tot]; omega
  | x :: r, hc, hb, h => by
    have hx := hb x (by simp)
    have cx := (canon_cons.1 hc)
    have ih := tot_le (lo := x.2 + 1) (hi := hi) hc.tail (fun y hy => ⟨by have := cx.2.1 y hy; omega, (hb y (by simp [hy])).2⟩) (by omega)
    simp only [tot]
    omega
theorem tot_nonneg {m : Int} {xs : List Sp} (h : Canon m xs) : 0 ≤ tot xs := by
  induction xs with
  | nil => exact Int.le_refl _
  | cons x r ih =>
    have := (canon_cons.1 h).1
    have := ih h.tail
    simp only [tot]; omega
theorem tot_take {xs : List Sp} {k : Nat} (h : k < xs.length) : tot (xs.take (k + 1)) = tot (xs.take k) + (xs[k].2 - xs[k].1 + 1) := by
  rw [List.take_succ_eq_append_getElem h, tot_append]
  simp only [tot]; omega
theorem canon_take {m : Int} {xs : List Sp} (h : Canon m xs) (k : Nat) : Canon m (xs.take k) := by
  have e : xs.take k ++ xs.drop k = xs := List.take_append_drop _ _
  rw [← e] at h
  exact (canon_append.1 h).1
/-- What lies ahead of a span is no more than its First. -/
theorem tot_ahead {m : Int} {xs : List Sp} (h : Canon m xs) {k : Nat} (hk : k < xs.length) : tot (xs.take k) ≤ xs[k].1 := by
  have e : xs.take k ++ xs.drop k = xs := List.take_append_drop _ _
  have h' := h
  rw [← e] at h'
  have hd := (canon_append.1 h').2.2
  have hb := h.1 xs[k] (List.getElem_mem _)
  have := tot_le (lo := 0) (hi := xs[k].1) (canon_take h k) (fun x hx => ⟨(h.1 x (List.mem_of_mem_take hx)).1, by
    have := hd x hx xs[k] (List.mem_drop_iff_getElem.2 ⟨0, by simpa using hk, by simp⟩)
    omega⟩) hb.1
  omega
/-- Size's answer. -/
def sizeB (xs : List Sp) : Int × Bool := if tot xs ≤ 18446744073709551615 then (tot xs, true) else (0, false)
/-- The longest. -/
def bigger (m x : Sp) : Sp := if m.2 - m.1 < x.2 - x.1 then x else m
def biggest (x : Sp) (r : List Sp) : Sp := r.foldl bigger x
theorem biggest_take {x : Sp} {r : List Sp} {k : Nat} (h : k < r.length) : biggest x (r.take (k + 1)) = bigger (biggest x (r.take k)) r[k] := by
  unfold biggest
  rw [List.take_succ_eq_append_getElem h, List.foldl_append]
  rfl

theorem biggest_mem (x : Sp) (r : List Sp) : biggest x r ∈ x :: r := by
  induction r generalizing x with
  | nil => simp [biggest]
  | cons y r ih =>
    have := ih (bigger x y)
    show biggest (bigger x y) r ∈ _
    rcases List.mem_cons.1 this with h | h
    · rw [h]
      unfold bigger
      split <;> simp
    · simp [h]
theorem biggest_in {m : Int} {x : Sp} {r : List Sp} (h : Canon m (x :: r)) (k : Nat) : 0 ≤ (biggest x (r.take k)).1 ∧ (biggest x (r.take k)).1 ≤ (biggest x (r.take k)).2 ∧ (biggest x (r.take k)).2 ≤ m := by
  refine h.1 _ ?_
  rcases List.mem_cons.1 (biggest_mem x (r.take k)) with e | e
  · rw [e]; simp
  · exact List.mem_cons_of_mem _ (List.mem_of_mem_take e)

/-- Touches' answer. -/
def touchesB (xs : List Sp) (x : Sp) : Bool := (nextB x.1 xs).2 && decide ((nextB x.1 xs).1 ≤ x.2)
theorem touchesB_iff {m : Int} {xs : List Sp} (h : Canon m xs) (x : Sp) : touchesB xs x = true ↔ ∃ p, x.1 ≤ p ∧ p ≤ x.2 ∧ In p xs := by
  unfold touchesB
  obtain ⟨n, b, hn⟩ : ∃ n b, nextB x.1 xs = (n, b) := ⟨_, _, rfl⟩
  rw [hn]
  cases b with
  | true =>
    obtain ⟨h1, h2, h3⟩ := nextB_some h hn
    simp only [Bool.true_and, decide_eq_true_eq]
    constructor
    · exact fun q => ⟨n, h1, q, h2⟩
    · rintro ⟨p, a, b, c⟩
      by_cases g : p < n
      · exact absurd c (h3 p a g)
      · omega
  | false =>
    obtain ⟨_, h2⟩ := nextB_none h hn
    simp only [Bool.false_and, Bool.false_eq_true, false_iff]
    rintro ⟨p, a, b, c⟩
    exact h2 p a c

theorem sure {P : Int → Prop} (h : ∀ q, P q) : true = true ↔ ∀ q, P q := ⟨fun _ => h, fun _ => rfl⟩
theorem prop2 {A B : Prop} : (A ∧ B) ↔ (A ∧ ¬ (A ∧ ¬ B)) := by by_cases a : A <;> by_cases b : B <;> simp [a, b]
theorem prop3 {A B C : Prop} : (A ∧ ¬ (B ∨ C)) ↔ ((A ∧ ¬ B) ∧ ¬ C) := by by_cases a : A <;> by_cases b : B <;> simp [a, b]
theorem prop4 {A B C : Prop} : (A ∧ (B ∨ C)) ↔ ((A ∧ B) ∨ (A ∧ C)) := by by_cases a : A <;> simp [a]
theorem prop5 {A B : Prop} : ((A ∧ ¬ B) ∨ (A ∧ B)) ↔ A := by by_cases a : A <;> by_cases b : B <;> simp [a, b]
theorem prop7 {A B : Prop} (h : A → B) : (B ∧ ¬ (B ∧ ¬ A)) ↔ A := by by_cases a : A <;> by_cases b : B <;> simp_all
theorem prop8 {A B : Prop} : ((B ∧ ¬ A) ∧ A) ↔ False := by by_cases a : A <;> simp [a]

end Go.Proofs.YtddgoncbdlhhhaaGreat.Sp
/- A machine in memory; what it tells by itself. Own work. -/
namespace Go.Proofs.YtddgoncbdlhhhaaGreat
open Go.RowKit Go.Maps Go.Proofs.YtddgoncbdlhhhaaGreat.Sp
theorem U64.SV.keeps {S : Nat → Prop} {w w' : World} {v : Value} {xs : List Sp} (h : U64.SV w v xs) (hk : Keeps S w w') (hn : ∀ j, v.ownBlock = some j → ¬ S j) : U64.SV w' v xs := by
  obtain ⟨ao, cap, rfl, h1, h2, h3, h4, h5⟩ := h
  refine ⟨ao, cap, rfl, h1, h2, h3, fun a e => (h4 a e).imp fun g ⟨off, e, hl⟩ => ⟨off, e, Nat.lt_of_lt_of_le hl hk.size⟩, fun j hj => ?_⟩
  obtain ⟨g, off, e, c0, c1⟩ := h5 j hj
  obtain ⟨g', off', e', hg⟩ := h4 _ e
  cases e'
  have hb : w'.heap[g]? = w.heap[g]? := hk.block g hg (hn g (by rw [e]; rfl))
  refine ⟨g, off, e, ?_, ?_⟩
  · rw [World.cell?_of_block (w := w) (a := ⟨g, off + j * 2, none⟩) hb]; exact c0
  · rw [World.cell?_of_block (w := w) (a := ⟨g, off + j * 2 + 1, none⟩) hb]; exact c1
/-- the byte p lies in one of the ranges -/
def On (rs : List Sp) (p : Int) : Prop := ∃ r ∈ rs, r.1 ≤ p ∧ p < r.1 + r.2
/-- ranges that a machine may have -/
def Sane (rs : List Sp) : Prop := ∀ r ∈ rs, 0 ≤ r.1 ∧ 0 < r.2 ∧ r.1 + r.2 ≤ 4294967296
/-- block m is a machine: what its meter tells, its lists, where its map and its pages lie, its bytes -/
def Mac (w : World) (m B : Nat) (V : Value × Value × Value) (T : Nat → Option Nat) (M : Nat → Nat) (rs ds : List Sp) (L S X : Nat) : Prop :=
  ∃ G, w.heap[m]? = some (.cells #[.int .i64 (L : Int), .int .i64 (S : Int), .int .i64 (X : Int), V.1, V.2.1, V.2.2, .map (some B)] 110 (0, 0)) ∧ U64.SV w V.1 rs ∧ U64.SV w V.2.1 ds ∧ U64.SV w V.2.2 G ∧
    Canon 18446744073709551615 G ∧ (∀ p, In p G ↔ On (rs ++ ds) p) ∧ Sane (rs ++ ds) ∧ G.length ≤ 64 ∧ Held w B T M ∧ ¬ Foot B T m ∧ ∀ v, v = V.1 ∨ v = V.2.1 ∨ v = V.2.2 → ∀ j, v.ownBlock = some j → ¬ Foot B T j ∧ j ≠ m
/-- the blocks that are the machine's own -/
def Mine (m B : Nat) (V : Value × Value × Value) (T : Nat → Option Nat) (j : Nat) : Prop := j = m ∨ Foot B T j ∨ ∃ v, (v = V.1 ∨ v = V.2.1 ∨ v = V.2.2) ∧ v.ownBlock = some j
theorem Mac.lt {w : World} {m B : Nat} {V : Value × Value × Value} {T : Nat → Option Nat} {M : Nat → Nat} {rs ds : List Sp} {L S X : Nat} (h : Mac w m B V T M rs ds L S X) : m < w.heap.size := by
  obtain ⟨_, h, _⟩ := h
  exact (Array.getElem?_eq_some_iff.1 h).1
theorem sv_lt {w : World} {v : Value} {xs : List Sp} (hv : U64.SV w v xs) (j : Nat) (hj : v.ownBlock = some j) : j < w.heap.size := by
  obtain ⟨ao, cap, rfl, _, _, _, hh, _⟩ := hv
  cases ao with
  | none => cases hj
  | some a =>
    obtain ⟨g, off, rfl, hg⟩ := hh _ rfl
    cases hj
    exact hg
theorem Mac.mine_lt {w : World} {m B : Nat} {V : Value × Value × Value} {T : Nat → Option Nat} {M : Nat → Nat} {rs ds : List Sp} {L S X : Nat} (h : Mac w m B V T M rs ds L S X) {j : Nat} (hj : Mine m B V T j) : j < w.heap.size := by
  have hlt := h.lt
  obtain ⟨G, h0, h1, h2, h3, h4, h5, h6, h7, h8, h9, h10⟩ := h
  rcases hj with rfl | hj | ⟨v, rfl | rfl | rfl, e⟩
  · exact hlt
  · exact h8.foot_lt hj
  · exact sv_lt h1 j e
  · exact sv_lt h2 j e
  · exact sv_lt h3 j e
theorem Mac.keeps {Z : Nat → Prop} {w w' : World} {m B : Nat} {V : Value × Value × Value} {T : Nat → Option Nat} {M : Nat → Nat} {rs ds : List Sp} {L S X : Nat} (h : Mac w m B V T M rs ds L S X) (hk : Keeps Z w w') (hn : ∀ j, Mine m B V T j → ¬ Z j) : Mac w' m B V T M rs ds L S X := by
  have hlt := h.lt
  obtain ⟨G, h0, h1, h2, h3, h4, h5, h6, h7, h8, h9, h10⟩ := h
  exact ⟨G, (hk.block m hlt (hn m (.inl rfl))).trans h0, h1.keeps hk (fun j e => hn j (.inr (.inr ⟨_, .inl rfl, e⟩))), h2.keeps hk (fun j e => hn j (.inr (.inr ⟨_, .inr (.inl rfl), e⟩))), h3.keeps hk (fun j e => hn j (.inr (.inr ⟨_, .inr (.inr rfl), e⟩))), h4, h5, h6, h7, h8.keeps hk (fun j hj => hn j (.inr (.inl hj))), h9, h10⟩
theorem Mac.below {w w' : World} {m B : Nat} {V : Value × Value × Value} {T : Nat → Option Nat} {M : Nat → Nat} {rs ds : List Sp} {L S X : Nat} (h : Mac w m B V T M rs ds L S X) (hb : Below w.heap.size w w') : Mac w' m B V T M rs ds L S X :=
  h.keeps (Keeps.of_below (S := fun _ => False) hb) (fun _ _ h => h)
/-- the pages have changed, the machine's own blocks have not -/
theorem Mac.laid {w w' : World} {m B : Nat} {V : Value × Value × Value} {T T' : Nat → Option Nat} {M M' : Nat → Nat} {rs ds : List Sp} {L S X : Nat} (h : Mac w m B V T M rs ds L S X) (hH : Held w' B T' M') (hk : Keeps (Foot B T) w w') (hG : Grows w.heap.size T T') : Mac w' m B V T' M' rs ds L S X := by
  have hlt := h.lt
  have hmine := fun j => h.mine_lt (j := j)
  obtain ⟨G, h0, h1, h2, h3, h4, h5, h6, h7, h8, h9, h10⟩ := h
  exact ⟨G, (hk.block m hlt h9).trans h0, h1.keeps hk (fun j e => (h10 _ (.inl rfl) j e).1), h2.keeps hk (fun j e => (h10 _ (.inr (.inl rfl)) j e).1), h3.keeps hk (fun j e => (h10 _ (.inr (.inr rfl)) j e).1), h4, h5, h6, h7, hH, fun hf => h9 (hG.foot hf hlt), fun v hv j e => ⟨fun hf => (h10 v hv j e).1 (hG.foot hf (hmine j (.inr (.inr ⟨v, hv, e⟩)))), (h10 v hv j e).2⟩⟩
/-- only the machine's own block has changed, and in it only the meter -/
theorem Mac.recount {w w' : World} {m B : Nat} {V : Value × Value × Value} {T : Nat → Option Nat} {M : Nat → Nat} {rs ds : List Sp} {L S X L' S' X' : Nat} (h : Mac w m B V T M rs ds L S X) (hk : Keeps (fun j => j = m) w w')
    (hm : w.heap[m]? = some (.cells #[.int .i64 (L : Int), .int .i64 (S : Int), .int .i64 (X : Int), V.1, V.2.1, V.2.2, .map (some B)] 110 (0, 0)) → w'.heap[m]? = some (.cells #[.int .i64 (L' : Int), .int .i64 (S' : Int), .int .i64 (X' : Int), V.1, V.2.1, V.2.2, .map (some B)] 110 (0, 0))) : Mac w' m B V T M rs ds L' S' X' := by
  obtain ⟨G, h0, h1, h2, h3, h4, h5, h6, h7, h8, h9, h10⟩ := h
  exact ⟨G, hm h0, h1.keeps hk (fun j e => (h10 _ (.inl rfl) j e).2), h2.keeps hk (fun j e => (h10 _ (.inr (.inl rfl)) j e).2), h3.keeps hk (fun j e => (h10 _ (.inr (.inr rfl)) j e).2), h4, h5, h6, h7, h8.keeps hk (fun j hj e => h9 (by rw [← e]; exact hj)), h9, h10⟩
theorem Mac.cells {w : World} {m B : Nat} {V : Value × Value × Value} {T : Nat → Option Nat} {M : Nat → Nat} {rs ds : List Sp} {L S X : Nat} (h : Mac w m B V T M rs ds L S X) :
    w.cell? ⟨m, 0, none⟩ = some (.int .i64 (L : Int)) ∧ w.cell? ⟨m, 1, none⟩ = some (.int .i64 (S : Int)) ∧ w.cell? ⟨m, 2, none⟩ = some (.int .i64 (X : Int)) ∧ w.cell? ⟨m, 6, none⟩ = some (.map (some B)) ∧ ∀ i, w.frozen? ⟨m, i, none⟩ = false := by
  obtain ⟨G, h0, _⟩ := h
  refine ⟨?_, ?_, ?_, ?_, fun i => by simp [World.frozen?, h0]⟩ <;> rw [cell_of_row w m _ _ _ _ h0] <;> rfl
set_option maxHeartbeats 1000000 in
theorem loads_any {w : World} {m B : Nat} {V : Value × Value × Value} {T : Nat → Option Nat} {M : Nat → Nat} {rs ds : List Sp} {L S X : Nat} (h : Mac w m B V T M rs ds L S X) : Calls Tryz.prog 69 #[.pointer (some ⟨m, 0, none⟩)] w fun e w' => e = .returned (.int .i64 (L : Int)) ∧ w' = w := by
  have c0 := h.cells.1
  clear h
  go_enter Tryz.func69, Tryz.ntmps69
  go_wp2
  go_ret
  exact ⟨rfl, rfl⟩
set_option maxHeartbeats 1000000 in
theorem stores_any {w : World} {m B : Nat} {V : Value × Value × Value} {T : Nat → Option Nat} {M : Nat → Nat} {rs ds : List Sp} {L S X : Nat} (h : Mac w m B V T M rs ds L S X) : Calls Tryz.prog 70 #[.pointer (some ⟨m, 0, none⟩)] w fun e w' => e = .returned (.int .i64 (S : Int)) ∧ w' = w := by
  have c0 := h.cells.2.1
  clear h
  go_enter Tryz.func70, Tryz.ntmps70
  go_wp2
  go_ret
  exact ⟨rfl, rfl⟩
set_option maxHeartbeats 1000000 in
theorem strays_any {w : World} {m B : Nat} {V : Value × Value × Value} {T : Nat → Option Nat} {M : Nat → Nat} {rs ds : List Sp} {L S X : Nat} (h : Mac w m B V T M rs ds L S X) : Calls Tryz.prog 71 #[.pointer (some ⟨m, 0, none⟩)] w fun e w' => e = .returned (.int .i64 (X : Int)) ∧ w' = w := by
  have c0 := h.cells.2.2.1
  clear h
  go_enter Tryz.func71, Tryz.ntmps71
  go_wp2
  go_ret
  exact ⟨rfl, rfl⟩
theorem wpList_len_pages {w : World} {ops : Array Oper} {rest : List Oper} {o : Oper} {a : Act} {Q : Exit → Act → World → Prop} (hgd : o.guard = none) (x : Operand) (ho : o.op = .call { callee := .builtin .len, args := #[x], argTypes := #[106] })
    {B c : Nat} {T : Nat → Option Nat} (hx : a.eval x = .map (some B)) (hM : MapT w B T c) (h : wpList Tryz.prog ops Q rest (a.put o.dst (.int .i64 (c : Int))) w) : wpList Tryz.prog ops Q (o :: rest) a w := by
  refine wpList_plain hgd fun K hK => ?_
  unfold Oper.wp
  simp [execOp, ho, resolve, invoke, builtin, hx, hM.len o.type, Result.andThen]
  exact hK _ _ h
theorem Mac.held {w : World} {m B : Nat} {V : Value × Value × Value} {T : Nat → Option Nat} {M : Nat → Nat} {rs ds : List Sp} {L S X : Nat} (h : Mac w m B V T M rs ds L S X) : Held w B T M := by
  obtain ⟨_, _, _, _, _, _, _, _, _, h8, _⟩ := h
  exact h8
set_option maxHeartbeats 1000000 in
theorem kept_any {w : World} {m B : Nat} {V : Value × Value × Value} {T : Nat → Option Nat} {M : Nat → Nat} {rs ds : List Sp} {L S X : Nat} (h : Mac w m B V T M rs ds L S X) : Calls Tryz.prog 31 #[.pointer (some ⟨m, 0, none⟩)] w fun e w' => e = .returned (.int .i64 (cnt M : Int)) ∧ w' = w := by
  have c0 := h.cells.2.2.2.1
  have HM : Hid (MapT w B T (cnt M)) := h.held.1
  clear h
  go_enter Tryz.func31, Tryz.ntmps31
  go_wp2_with (at_len; refine wpList_len_pages rfl _ rfl rfl HM.out ?_)
  go_ret
  exact ⟨rfl, rfl⟩
end Go.Proofs.YtddgoncbdlhhhaaGreat
/- A bus that comes in, in memory. Own work. -/
namespace Go.Proofs.YtddgoncbdlhhhaaGreat
open Go.RowKit Go.ChangeShapes Go.WideShapes Go.Proofs.YtddgoncbdlhhhaaGreat.Sp
theorem two_list {α : Type} {cs : List α} {x0 x1 : α} (h : cs.length = 2) (h0 : (cs.drop 0).take 1 = [x0]) (h1 : (cs.drop 1).take 1 = [x1]) : cs = [x0, x1] := by
  match cs, h with
  | [a, b], _ => simp_all
theorem u64_in {n : Int} (h : (Lit.int .u64 n).wf = true) : 0 ≤ n ∧ n ≤ 18446744073709551615 := by
  simp [Lit.wf] at h
  have h1 : 0 ≤ n := h.1
  have h2 : n ≤ 18446744073709551615 := h.2
  exact ⟨h1, h2⟩
section
variable {H : Type} {enc : TypeId × Value → H} {W : World} {base : Nat} {held : Bool}
set_option maxRecDepth 100000 in
theorem slice_place {r : Reach} {b : Nat} {a : Addr} {len cap : Nat} (h : Cell.okWide Tryz.prog W r b 22 (.slice (some a) len cap)) : a.spot = none ∧ a.block < W.heap.size := by
  simp only [Cell.okWide, Cell.ok, Tryz.underlying22, World.has] at h
  obtain ⟨_, _, _, h1, row, cells, h2, _⟩ := h
  refine ⟨h1, ?_⟩
  unfold World.shape? at h2
  by_cases hlt : a.block < W.heap.size
  · exact hlt
  · rw [Array.getElem?_eq_none (by omega)] at h2
    simp at h2
theorem rg1_opened {fuel : Nat} {cs : List Value} {x : DataW H × List MemPlace} (h : DataW.trod enc Tryz.prog W base (fun _ => true) held fuel 55 cs = some x) :
    ∃ y : Sp, cs = [.int .u64 y.1, .int .u64 y.2] ∧ 0 ≤ y.1 ∧ y.1 ≤ 18446744073709551615 ∧ 0 ≤ y.2 ∧ y.2 ≤ 18446744073709551615 := by
  obtain ⟨xs, n, _, _, hl, hlen, hf⟩ := DataW.trod_struct Tryz.underlying55 h
  have hlen2 : xs.length = 2 := hlen
  obtain ⟨y0, e0⟩ : ∃ y, xs[0]? = some y := ⟨xs[0], List.getElem?_eq_getElem (by omega)⟩
  obtain ⟨y1, e1⟩ : ∃ y, xs[1]? = some y := ⟨xs[1], List.getElem?_eq_getElem (by omega)⟩
  obtain ⟨a, ha, _, wa⟩ := DataW.trod_int Tryz.underlying26 ((hf 0 _ rfl).trans e0)
  obtain ⟨b, hb, _, wb⟩ := DataW.trod_int Tryz.underlying26 ((hf 1 _ rfl).trans e1)
  have c6 : Tryz.prog.cellsOf 26 = 1 := by kernel_rfl
  have cS : Tryz.prog.cellsOf 55 = 2 := by kernel_rfl
  change List.take (Tryz.prog.cellsOf 26) (List.drop 0 cs) = _ at ha
  change List.take (Tryz.prog.cellsOf 26) (List.drop 1 cs) = _ at hb
  rw [c6] at ha hb
  have ba := u64_in wa
  have bb := u64_in wb
  exact ⟨(a, b), two_list (by rw [hl, cS]) ha hb, ba.1, ba.2, bb.1, bb.2⟩
set_option maxRecDepth 100000 in
theorem rgs_opened {fuel : Nat} {cs : List Value} {x : DataW H × List MemPlace} (hok : ∀ v, cs = [v] → ∃ (r : Reach) (b : Nat), Cell.okWide Tryz.prog W r b 22 v) (h : DataW.trod enc Tryz.prog W base (fun _ => true) held fuel 22 cs = some x) : ∃ v xs, cs = [v] ∧ U64.SV W v xs ∧ Fits 18446744073709551615 xs := by
  rcases Go.Deep.open_slice Tryz.underlying22 h with ⟨rfl, _⟩ | ⟨a, len, cap, m, n, D, Pl, rfl, _, hl, hm, hmm, rfl, hx⟩
  · exact ⟨_, [], rfl, U64.SV.nil W, fun _ h => by cases h⟩
  · have cS : Tryz.prog.cellsOf 55 = 2 := by kernel_rfl
    rw [cS] at hx
    have hmc : m = cap := by simpa using hmm
    obtain ⟨r, b0, hc0⟩ := hok _ rfl
    obtain ⟨hsp, hlt⟩ := slice_place hc0
    haveI : Inhabited Sp := ⟨(0, 0)⟩
    obtain ⟨F, hF⟩ := Go.Deep.choose_lt (α := Sp) (n := len) (p := fun i y => (0 ≤ y.1 ∧ y.1 ≤ 18446744073709551615 ∧ 0 ≤ y.2 ∧ y.2 ≤ 18446744073709551615) ∧ ∀ j v, ([.int .u64 y.1, .int .u64 y.2] : List Value)[j]? = some v → W.cell? ((a.add (i * 2)).add j) = some v) (fun i hi => by
      obtain ⟨cs', h1, h2⟩ := hx i (by omega)
      obtain ⟨y, rfl, hb⟩ := rg1_opened h2
      obtain ⟨_, _, hc⟩ := World.cells?_some h1
      refine ⟨y, hb, fun j v hj => ?_⟩
      rw [hc j (by have := (List.getElem?_eq_some_iff.1 hj).1; simpa using this)]
      exact hj)
    obtain ⟨b, o, sp⟩ := a
    simp only at hsp hlt
    subst hsp
    refine ⟨_, (List.range len).map F, rfl, ⟨some ⟨b, o, none⟩, cap, by simp, by simpa using hl, hm, fun e => (by cases e), fun a e => (by cases e; exact ⟨b, o, rfl, hlt⟩), fun i hi => ?_⟩, fun y hy => ?_⟩
    · have hi' : i < len := by simpa using hi
      obtain ⟨_, hc⟩ := hF i hi'
      have hget : ((List.range len).map F)[i] = F i := by simp
      rw [hget]
      simp only [Go.WideShapes.add_plain] at hc
      exact ⟨b, o, rfl, hc 0 _ rfl, hc 1 _ rfl⟩
    · obtain ⟨i, hi, rfl⟩ := List.mem_map.1 hy
      exact (hF i (by simpa using hi)).1
set_option maxRecDepth 100000 in
theorem bus_opened {fuel : Nat} {r : Reach} {b : Nat} {cs : Array Value} {x : DataW H × List MemPlace} (hok : Row.okWide Tryz.prog W r b 24 cs) (h : DataW.trod enc Tryz.prog W base (fun _ => true) held fuel 24 cs.toList = some x) :
    ∃ vr vd rs ds, cs = #[vr, vd] ∧ U64.SV W vr rs ∧ U64.SV W vd ds ∧ Fits 18446744073709551615 rs ∧ Fits 18446744073709551615 ds := by
  obtain ⟨ts, hts, _, hcell⟩ := hok
  have hts2 : ts = [22, 22] := by
    have : Tryz.prog.cellTypes Tryz.prog.depth 24 = some [22, 22] := by kernel_rfl
    rw [this] at hts
    exact (Option.some.inj hts).symm
  subst hts2
  obtain ⟨ys, n, _, _, hl, hlen, hf⟩ := DataW.trod_struct Tryz.underlying24 h
  have hlen2 : ys.length = 2 := hlen
  obtain ⟨y0, e0⟩ : ∃ y, ys[0]? = some y := ⟨ys[0], List.getElem?_eq_getElem (by omega)⟩
  obtain ⟨y1, e1⟩ : ∃ y, ys[1]? = some y := ⟨ys[1], List.getElem?_eq_getElem (by omega)⟩
  have c7 : Tryz.prog.cellsOf 22 = 1 := by kernel_rfl
  have cS : Tryz.prog.cellsOf 24 = 2 := by kernel_rfl
  have hl2 : cs.toList.length = 2 := by rw [hl, cS]
  obtain ⟨v0, v1, rfl⟩ : ∃ v0 v1, cs = #[v0, v1] := by
    match cs, hl2 with
    | ⟨[a, b]⟩, _ => exact ⟨a, b, rfl⟩
  have h0 := (hf 0 _ rfl).trans e0
  have h1 := (hf 1 _ rfl).trans e1
  change DataW.trod enc Tryz.prog W base (fun _ => true) held n 22 (List.take (Tryz.prog.cellsOf 22) (List.drop 0 [v0, v1])) = _ at h0
  change DataW.trod enc Tryz.prog W base (fun _ => true) held n 22 (List.take (Tryz.prog.cellsOf 22) (List.drop 1 [v0, v1])) = _ at h1
  rw [c7] at h0 h1
  obtain ⟨vr, rs, er, hr, fr⟩ := rgs_opened (fun v e => by
    obtain ⟨u, hu, hc⟩ := hcell 0 v0 rfl
    cases hu
    cases e
    exact ⟨r, b, hc⟩) h0
  obtain ⟨vd, ds, ed, hd, fd⟩ := rgs_opened (fun v e => by
    obtain ⟨u, hu, hc⟩ := hcell 1 v1 rfl
    cases hu
    cases e
    exact ⟨r, b, hc⟩) h1
  cases er
  cases ed
  exact ⟨v0, v1, rs, ds, rfl, hr, hd, fr, fd⟩
end
end Go.Proofs.YtddgoncbdlhhhaaGreat
