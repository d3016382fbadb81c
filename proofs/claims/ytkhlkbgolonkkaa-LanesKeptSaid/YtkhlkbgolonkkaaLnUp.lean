/- Lanes: container/heap's up over the queue. Own work. -/
import Derived.Test.YtkhlkbgolonkkaaLnHeap
namespace Go.Proofs.Ytkhlkbgolonkkaa
open Go.RowKit
set_option linter.unusedVariables false
theorem qless_any {w : World} {base : Nat} {v : Value} {xs : List J4} {i j : Nat} (h : OwnJ w base v xs) (hi : i < xs.length) (hj : j < xs.length) :
    Calls Try.prog 82 #[v, .int .i64 (i : Int), .int .i64 (j : Int)] w fun e w' => e = .returned (.bool (aheadJ xs[i] xs[j])) ∧ w' = w.drew.drew := by
  obtain ⟨g, cap, rfl, hb, hg, hc, hm⟩ := h.pos (by omega)
  obtain ⟨h0, _, h2, _⟩ := h.cells i hi
  obtain ⟨k0, _, k2, _⟩ := h.cells j hj
  exact qless_at hi hj h0 k0 h2 k2
/-- a queue: its own block, its row -/
structure Hq (w : World) (k base : Nat) (v : Value) (xs : List J4) : Prop where
  blk : w.heap[k]? = some (.cells #[v] 83 (0, 0))
  own : OwnJ w base v xs
  ge : base ≤ k
  ne : v.ownBlock ≠ some k
theorem Hq.cell {w : World} {k base : Nat} {v : Value} {xs : List J4} (h : Hq w k base v xs) : w.cell? ⟨k, 0, none⟩ = some v := by rw [cell_of_row _ _ _ _ _ _ h.blk]; rfl
theorem Hq.lt {w : World} {k base : Nat} {v : Value} {xs : List J4} (h : Hq w k base v xs) : k < w.heap.size := (Array.getElem?_eq_some_iff.1 h.blk).1
theorem Hq.drew {w : World} {k base : Nat} {v : Value} {xs : List J4} (h : Hq w k base v xs) : Hq w.drew k base v xs := ⟨h.blk, h.own, h.ge, h.ne⟩
theorem Hq.to {w w' : World} {k base : Nat} {v : Value} {xs ys : List J4} (h : Hq w k base v xs) (hk : Keeps (fun b => v.ownBlock = some b) w w') (ho : OwnJ w' base v ys) : Hq w' k base v ys :=
  ⟨(hk.block k h.lt h.ne).trans h.blk, ho, h.ge, h.ne⟩
theorem Hq.kept {w w' : World} {k base : Nat} {v : Value} {xs : List J4} (h : Hq w k base v xs) (hb : base ≤ w.heap.size) (hk : Keeps (fun b => v.ownBlock = some b) w w') : Below base w w' := hk.below hb (fun i _ hi => (h.own.lt i hi).1)
/-- nothing changes but the block k and the row of v -/
def Kq (k : Nat) (v : Value) (w w' : World) : Prop := Keeps (fun b => b = k ∨ v.ownBlock = some b) w w'
/-- a row's block is the same, or a new one -/
def Fr (w : World) (v v' : Value) : Prop := v'.ownBlock = v.ownBlock ∨ ∃ j, v'.ownBlock = some j ∧ w.heap.size ≤ j
theorem Kq.refl (k : Nat) (v : Value) (w : World) : Kq k v w w := Keeps.refl _ _
theorem Kq.drew {k : Nat} {v : Value} {w w' : World} (h : Kq k v w w') : Kq k v w w'.drew := Keeps.drew h
theorem Kq.size {k : Nat} {v : Value} {w w' : World} (h : Kq k v w w') : w.heap.size ≤ w'.heap.size := Keeps.size h
theorem Kq.trans {k : Nat} {v : Value} {a b c : World} (h : Kq k v a b) (h2 : Kq k v b c) : Kq k v a c := Keeps.trans h h2 fun _ _ e => e
theorem Kq.thenF {k : Nat} {v v1 : Value} {a b c : World} (h : Kq k v a b) (hf : Fr a v v1) (h2 : Kq k v1 b c) : Kq k v a c :=
  Keeps.trans h h2 fun i hi e => by
    rcases e with e | e
    · exact .inl e
    · rcases hf with f | ⟨j, f, hj⟩
      · exact .inr (f ▸ e)
      · rw [f] at e
        cases e
        omega
theorem Fr.refl (w : World) (v : Value) : Fr w v v := .inl rfl
theorem Fr.trans {a b : World} {v v1 v2 : Value} (h : Fr a v v1) (hs : a.heap.size ≤ b.heap.size) (h2 : Fr b v1 v2) : Fr a v v2 := by
  rcases h2 with e | ⟨j, e, hj⟩
  · rcases h with f | ⟨j, f, hj⟩
    · exact .inl (e.trans f)
    · exact .inr ⟨j, e.trans f, hj⟩
  · exact .inr ⟨j, e, by omega⟩
theorem Hq.keptq {w w' : World} {k base : Nat} {v : Value} {xs : List J4} (h : Hq w k base v xs) (hk : Keeps (fun b => v.ownBlock = some b) w w') : Kq k v w w' := hk.mono fun _ _ e => .inr e
/-- two jobs change places -/
def swapT (xs : List J4) (i j : Nat) : List J4 := match xs[i]?, xs[j]? with | some a, some b => (xs.set i b).set j a | _, _ => xs
theorem swapT_length (xs : List J4) (i j : Nat) : (swapT xs i j).length = xs.length := by
  unfold swapT; split <;> simp
theorem swapT_eq (xs : List J4) (i j : Nat) (hi : i < xs.length) (hj : j < xs.length) : swapJ xs i j hi hj = swapT xs i j := by
  unfold swapT swapJ
  rw [List.getElem?_eq_getElem hi, List.getElem?_eq_getElem hj]
/-- whether the job at j goes ahead of the one at i -/
def aheadAt (xs : List J4) (j i : Nat) : Bool := match xs[j]?, xs[i]? with | some a, some b => aheadJ a b | _, _ => false
theorem aheadAt_eq (xs : List J4) (j i : Nat) (hj : j < xs.length) (hi : i < xs.length) : aheadAt xs j i = aheadJ xs[j] xs[i] := by
  unfold aheadAt
  rw [List.getElem?_eq_getElem hi, List.getElem?_eq_getElem hj]
/-- container/heap's up -/
def upF (xs : List J4) (j : Nat) : List J4 := if h : j = 0 then xs else if aheadAt xs j ((j - 1) / 2) then upF (swapT xs ((j - 1) / 2) j) ((j - 1) / 2) else xs
termination_by j
decreasing_by omega
/-- a queue as container/heap sees it -/
def HV (k : Nat) : Value := .iface 88 (.pointer (some ⟨k, 0, none⟩))
set_option maxRecDepth 100000 in
set_option maxHeartbeats 4000000 in
theorem up_any {w : World} {k base : Nat} {v : Value} {xs : List J4} {j : Nat} (h : Hq w k base v xs) (hb : base ≤ w.heap.size) (hj : j < xs.length) (hx : xs.length ≤ 268435456) :
    Calls Try.prog 43 #[HV k, .int .i64 (j : Int)] w fun e w' => e = .returned (.tuple #[]) ∧ Hq w' k base v (upF xs j) ∧ Kq k v w w' := by
  have hle : ∀ W : World, W.cell? ⟨k, 0, none⟩ = some v → (method 241 88 (.pointer (some ⟨k, 0, none⟩)) "Less").run Try.prog W = .ok (82, v) W := fun W hW => q_less hW
  have hsw : ∀ W : World, W.cell? ⟨k, 0, none⟩ = some v → (method 241 88 (.pointer (some ⟨k, 0, none⟩)) "Swap").run Try.prog W = .ok (83, v) W := fun W hW => q_swap hW
  have HH := Lib.hid h
  obtain ⟨n, hn⟩ : ∃ n, xs.length = n := ⟨_, rfl⟩
  have HN := Lib.hid hn
  rw [hn] at hj hx
  clear h hn
  unfold HV
  go_enter Try.func43, Try.ntmps43
  go_wp2_with fail
  go_loopw [1] (fun jv wr => ∃ (q : Nat) (ys : List J4), jv = .int .i64 (q : Int) ∧ q < n ∧ Hid (ys.length = n ∧ upF ys q = upF xs j ∧ Hq wr k base v ys ∧ Kq k v w wr)) (fun jv _ => (intOf jv).toNat)
  case atStart => exact ⟨j, xs, rfl, hj, ⟨HN.out, rfl, HH.out, Kq.refl _ _ _⟩⟩
  case round =>
    clear HH
    obtain ⟨q, ys, rfl, hq, HS⟩ := hrel
    have x0 := HS.out.2.2.1.cell
    by_cases hq0 : q = 0
    · subst hq0
      have hup : upF ys 0 = ys := by rw [upF]; simp
      go_wp2_with fail
      go_end0
      obtain ⟨_, h2, h3, h4⟩ := HS.out
      exact ⟨rfl, by rw [← h2, hup]; exact h3, h4⟩
    · obtain ⟨i, hi⟩ : ∃ i, (q - 1) / 2 = i := ⟨_, rfl⟩
      have hiq : i < q := by omega
      obtain ⟨hl, h2, h3, h4⟩ := HS.out
      have hup : upF ys q = if aheadAt ys q i then upF (swapT ys i q) i else ys := by rw [upF, dif_neg hq0, hi]
      have HLe := Lib.hid (qless_any (i := q) (j := i) h3.own (by omega) (by omega))
      rw [← aheadAt_eq] at HLe
      have HSw := Lib.hid (qswap_any (i := i) (j := q) h3.drew.drew.own (by omega) (by omega))
      rw [swapT_eq] at HSw
      have jw : IntKind.i64.wrap ((q : Int) - 1) = ((q - 1 : Nat) : Int) := by rw [IntKind.wrap_i64]; omega
      have jd : ((q - 1 : Nat) : Int).tdiv 2 = (i : Int) := by rw [Int.tdiv_eq_ediv_of_nonneg (by omega), ← hi]; omega
      have jd2 : IntKind.i64.wrap (i : Int) = (i : Int) := by rw [IntKind.wrap_i64]; omega
      have jn : ((i : Int) == (q : Int)) = false := by simp; omega
      have HU := Lib.hid hup
      have HI := Lib.hid hiq
      clear hl h2 h3 h4 hup hi hiq
      cases hah : aheadAt ys q i with
      | true =>
        rw [hah] at HLe HU
        go_wp2_with fail
        refine HLe.out.mono ?_
        rintro e w2 ⟨rfl, hw2⟩
        subst hw2
        clear HLe
        go_wp2_with fail
        refine HSw.out.mono ?_
        rintro e w3 ⟨rfl, ho, hk⟩
        have HR : Hid ((swapT ys i q).length = n ∧ upF (swapT ys i q) i = upF xs j ∧ Hq w3 k base v (swapT ys i q) ∧ Kq k v w w3) := by
          obtain ⟨hl, h2, h3, h4⟩ := HS.out
          refine ⟨by rw [swapT_length]; exact hl, ?_, h3.drew.drew.to hk ho, h4.drew.drew.trans (h3.drew.drew.keptq hk)⟩
          rw [← h2, HU.out, if_pos (by trivial)]
        clear HSw ho hk HS
        go_wp2_with fail
        go_roundw
        case rel => exact ⟨i, _, rfl, by have := HI.out; omega, HR⟩
        case measure => have := HI.out; simp [intOf]; omega
      | false =>
        rw [hah] at HLe HU
        go_wp2_with fail
        refine HLe.out.mono ?_
        rintro e w2 ⟨rfl, hw2⟩
        subst hw2
        clear HLe
        go_wp2_with fail
        go_end0
        obtain ⟨hl, h2, h3, h4⟩ := HS.out
        refine ⟨rfl, ?_, h4.drew.drew⟩
        rw [← h2, HU.out, if_neg (by decide)]
        exact h3.drew.drew
end Go.Proofs.Ytkhlkbgolonkkaa
