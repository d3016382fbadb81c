/- Lanes: where byDeadline's slots, queue and coming jobs lie. Own work. -/
import Derived.Test.YtkhlkbgolonkkaaLnEd
import Derived.Test.YtkhlkbgolonkkaaLnAddK
namespace Go.Proofs.Ytkhlkbgolonkkaa
open Go.RowKit
set_option linter.unusedVariables false
/-- jobs that are read, wherever they lie -/
def RdJ (w : World) (v : Value) (xs : List J4) : Prop :=
  ∃ ao cap, v = .slice ao xs.length cap ∧ xs.length ≤ cap ∧ cap ≤ maxLen ∧ ∀ i (h : i < xs.length), ∃ b o, ao = some ⟨b, o, none⟩ ∧ w.cell? ⟨b, o + i * 4, none⟩ = some (.int .i64 xs[i].n) ∧ w.cell? ⟨b, o + i * 4 + 1, none⟩ = some (.int .i64 xs[i].r) ∧ w.cell? ⟨b, o + i * 4 + 2, none⟩ = some (.int .i64 xs[i].d) ∧ w.cell? ⟨b, o + i * 4 + 3, none⟩ = some (.int .i64 xs[i].l)
theorem RdJ.keeps {S : Nat → Prop} {w w' : World} {v : Value} {xs : List J4} (h : RdJ w v xs) (hk : Keeps S w w') (hn : ∀ k, v.ownBlock = some k → ¬ S k) : RdJ w' v xs := by
  obtain ⟨ao, cap, rfl, h1, h2, h3⟩ := h
  refine ⟨ao, cap, rfl, h1, h2, fun i hi => ?_⟩
  obtain ⟨b, o, rfl, c0, c1, c2, c3⟩ := h3 i hi
  have hb := hk.block b (World.block_lt_of_cell? w _ c0) (hn b rfl)
  refine ⟨b, o, rfl, ?_, ?_, ?_, ?_⟩
  · rw [World.cell?_of_block (w := w) (a := ⟨b, _, none⟩) hb]; exact c0
  · rw [World.cell?_of_block (w := w) (a := ⟨b, _, none⟩) hb]; exact c1
  · rw [World.cell?_of_block (w := w) (a := ⟨b, _, none⟩) hb]; exact c2
  · rw [World.cell?_of_block (w := w) (a := ⟨b, _, none⟩) hb]; exact c3
theorem OwnJ.rd {w : World} {base : Nat} {v : Value} {xs : List J4} (h : OwnJ w base v xs) : RdJ w v xs := by
  have h' := h
  rcases h.2 with ⟨rfl, h0⟩ | ⟨g, cap, cur, rfl, hb, hg, h1, h2, hs, ht⟩
  · exact ⟨none, 0, by rw [h0], by omega, Nat.zero_le _, fun i hi => by omega⟩
  · refine ⟨_, cap, rfl, h1, h2, fun i hi => ⟨g, 0, rfl, ?_, ?_, ?_, ?_⟩⟩
    · rw [Nat.zero_add]; exact h'.cell i 0 hi (by omega)
    · rw [Nat.zero_add]; exact h'.cell i 1 hi (by omega)
    · rw [Nat.zero_add]; exact h'.cell i 2 hi (by omega)
    · rw [Nat.zero_add]; exact h'.cell i 3 hi (by omega)
theorem RdJ.head {w : World} {v : Value} {x : J4} {xs : List J4} (h : RdJ w v (x :: xs)) : ∃ b o cap, v = .slice (some ⟨b, o, none⟩) (xs.length + 1) cap ∧ xs.length + 1 ≤ cap ∧ cap ≤ maxLen ∧ w.cell? ⟨b, o, none⟩ = some (.int .i64 x.n) ∧ w.cell? ⟨b, o + 1, none⟩ = some (.int .i64 x.r) ∧ w.cell? ⟨b, o + 2, none⟩ = some (.int .i64 x.d) ∧ w.cell? ⟨b, o + 3, none⟩ = some (.int .i64 x.l) ∧ RdJ w (.slice (some ⟨b, o + 4, none⟩) xs.length (cap - 1)) xs := by
  obtain ⟨ao, cap, rfl, h1, h2, h3⟩ := h
  obtain ⟨b, o, rfl, c0, c1, c2, c3⟩ := h3 0 (by simp)
  simp only [Nat.zero_mul, Nat.add_zero, List.getElem_cons_zero] at c0 c1 c2 c3
  simp only [List.length_cons] at h1
  refine ⟨b, o, cap, rfl, h1, h2, c0, c1, c2, c3, _, cap - 1, rfl, by omega, by omega, fun i hi => ?_⟩
  obtain ⟨b', o', e, d0, d1, d2, d3⟩ := h3 (i + 1) (by simpa using hi)
  simp only [Option.some.injEq, Addr.mk.injEq, and_true] at e
  obtain ⟨rfl, rfl⟩ := e
  simp only [List.getElem_cons_succ] at d0 d1 d2 d3
  refine ⟨b, o + 4, rfl, ?_, ?_, ?_, ?_⟩
  · rw [show o + 4 + i * 4 = o + (i + 1) * 4 by omega]; exact d0
  · rw [show o + 4 + i * 4 = o + (i + 1) * 4 by omega]; exact d1
  · rw [show o + 4 + i * 4 = o + (i + 1) * 4 by omega]; exact d2
  · rw [show o + 4 + i * 4 = o + (i + 1) * 4 by omega]; exact d3
theorem RdJ.none {w : World} {v : Value} (h : RdJ w v []) : ∃ ao cap, v = .slice ao 0 cap := by
  obtain ⟨ao, cap, rfl, _⟩ := h
  exact ⟨ao, cap, rfl⟩
/-- byDeadline's memory: H is where it began -/
structure Bd (w wr : World) (qv rv cv : Value) (ws cs : List J4) (rs : List S3) : Prop where
  below : Below w.heap.size w wr
  row : Rw wr w.heap.size w.heap.size rv rs
  rnil : rs = [] → rv = .slice none 0 0
  que : Hq wr (w.heap.size + 1) w.heap.size qv ws
  com : RdJ wr cv cs
  a1 : rv.ownBlock ≠ some (w.heap.size + 1)
  a2 : qv.ownBlock ≠ some w.heap.size
  a3 : ∀ k, rv.ownBlock = some k → qv.ownBlock ≠ some k
  a4 : ∀ k, cv.ownBlock = some k → k < wr.heap.size ∧ k ≠ w.heap.size ∧ k ≠ w.heap.size + 1 ∧ rv.ownBlock ≠ some k ∧ qv.ownBlock ≠ some k
theorem Bd.le {w wr : World} {qv rv cv : Value} {ws cs : List J4} {rs : List S3} (h : Bd w wr qv rv cv ws cs rs) : w.heap.size ≤ wr.heap.size := h.below.size
theorem Bd.drew {w wr : World} {qv rv cv : Value} {ws cs : List J4} {rs : List S3} (h : Bd w wr qv rv cv ws cs rs) : Bd w wr.drew qv rv cv ws cs rs :=
  ⟨h.below.drew, h.row.drew, h.rnil, h.que.drew, h.com.keeps (S := fun _ => False) (Keeps.refl _ _).drew (fun _ _ e => e), h.a1, h.a2, h.a3, h.a4⟩
/-- the queue has changed -/
theorem Bd.queued {w wr w2 : World} {qv qv2 rv cv : Value} {ws ws2 cs : List J4} {rs : List S3} (h : Bd w wr qv rv cv ws cs rs) (hq : Hq w2 (w.heap.size + 1) w.heap.size qv2 ws2) (hk : Kq (w.heap.size + 1) qv wr w2) (hf : Fr wr qv qv2) : Bd w w2 qv2 rv cv ws2 cs rs := by
  have hlr : ∀ k, rv.ownBlock = some k → k < wr.heap.size := fun k e => (h.row.own.lt k e).2
  have hfr : ∀ k, k < wr.heap.size → qv2.ownBlock = some k → qv.ownBlock = some k := by
    intro k hk e
    rcases hf with f | ⟨j, f, hj⟩
    · rw [← f, e]
    · rw [f] at e; cases e; omega
  refine ⟨?_, ⟨?_, ?_, h.row.ge, h.row.ne⟩, h.rnil, hq, ?_, h.a1, ?_, ?_, ?_⟩
  · refine h.below.trans (Keeps.below hk h.le fun i _ e => ?_)
    rcases e with e | e
    · omega
    · exact (h.que.own.lt i e).1
  · rw [Keeps.block hk _ h.row.lt (fun e => by
      rcases e with e | e
      · omega
      · exact h.a2 e)]
    exact h.row.blk
  · refine h.row.own.keeps hk fun k hk2 e => ?_
    rcases e with e | e
    · exact h.a1 (by rw [hk2, e])
    · exact h.a3 k hk2 e
  · refine h.com.keeps hk fun k hk2 e => ?_
    obtain ⟨b1, b2, b3, b4, b5⟩ := h.a4 k hk2
    rcases e with e | e
    · exact b3 e
    · exact b5 e
  · exact fun e => h.a2 (hfr _ h.row.lt e)
  · exact fun k hk2 e => h.a3 k hk2 (hfr k (hlr k hk2) e)
  · intro k hk2
    obtain ⟨b1, b2, b3, b4, b5⟩ := h.a4 k hk2
    exact ⟨Nat.lt_of_lt_of_le b1 hk.size, b2, b3, b4, fun e => b5 (hfr k b1 e)⟩
/-- the slots have changed -/
theorem Bd.added {w wr w2 : World} {qv rv rv2 cv : Value} {ws cs : List J4} {rs rs2 : List S3} (h : Bd w wr qv rv cv ws cs rs) (hr : Rw w2 w.heap.size w.heap.size rv2 rs2) (hk : Kq w.heap.size rv wr w2) (hf : Fr wr rv rv2) (hn : rs2 = [] → rv2 = .slice none 0 0) : Bd w w2 qv rv2 cv ws cs rs2 := by
  have hlq : ∀ k, qv.ownBlock = some k → k < wr.heap.size := fun k e => (h.que.own.lt k e).2
  have hfr : ∀ k, k < wr.heap.size → rv2.ownBlock = some k → rv.ownBlock = some k := by
    intro k hk e
    rcases hf with f | ⟨j, f, hj⟩
    · rw [← f, e]
    · rw [f] at e; cases e; omega
  refine ⟨?_, hr, hn, ⟨?_, ?_, h.que.ge, h.que.ne⟩, ?_, ?_, h.a2, ?_, ?_⟩
  · refine h.below.trans (Keeps.below hk h.le fun i _ e => ?_)
    rcases e with e | e
    · omega
    · exact (h.row.own.lt i e).1
  · rw [Keeps.block hk _ h.que.lt (fun e => by
      rcases e with e | e
      · omega
      · exact h.a1 e)]
    exact h.que.blk
  · refine h.que.own.keeps hk fun k hk2 e => ?_
    rcases e with e | e
    · exact h.a2 (by rw [hk2, e])
    · exact h.a3 k e hk2
  · refine h.com.keeps hk fun k hk2 e => ?_
    obtain ⟨b1, b2, b3, b4, b5⟩ := h.a4 k hk2
    rcases e with e | e
    · exact b2 e
    · exact b4 e
  · exact fun e => h.a1 (hfr _ h.que.lt e)
  · exact fun k hk2 e => h.a3 k (hfr k (hlq k e) hk2) e
  · intro k hk2
    obtain ⟨b1, b2, b3, b4, b5⟩ := h.a4 k hk2
    exact ⟨Nat.lt_of_lt_of_le b1 hk.size, b2, b3, fun e => b4 (hfr k b1 e), b5⟩
/-- the first one that comes has gone -/
theorem Bd.tail {w wr : World} {qv rv cv cv2 : Value} {ws cs cs2 : List J4} {rs : List S3} (h : Bd w wr qv rv cv ws cs rs) (hc : RdJ wr cv2 cs2) (hv : cv2.ownBlock = cv.ownBlock) : Bd w wr qv rv cv2 ws cs2 rs :=
  ⟨h.below, h.row, h.rnil, h.que, hc, h.a1, h.a2, h.a3, fun k hk => h.a4 k (hv ▸ hk)⟩
/-- the first one that waits has run -/
theorem Bd.left {w wr : World} {g cap : Nat} {rv cv : Value} {x : J4} {ws cs : List J4} {rs : List S3} {l : Int} (h : Bd w wr (.slice (some ⟨g, 0, none⟩) (ws.length + 1) cap) rv cv (x :: ws) cs rs) : Bd w (wr.setCell ⟨g, 3, none⟩ (.int .i64 l)) (.slice (some ⟨g, 0, none⟩) (ws.length + 1) cap) rv cv (⟨x.n, x.r, x.d, l⟩ :: ws) cs rs := by
  have h1 := h.que.own.set 0 3 (by simp) (by omega) ⟨x.n, x.r, x.d, l⟩ (.int .i64 l) rfl
  rw [Nat.zero_mul, Nat.zero_add] at h1
  have hk : Keeps (fun b => (Value.slice (some ⟨g, 0, none⟩) (ws.length + 1) cap).ownBlock = some b) wr (wr.setCell ⟨g, 3, none⟩ (.int .i64 l)) := (Keeps.setCell wr g 3 _).mono fun _ _ e => by rw [e]; rfl
  exact h.queued (h.que.to hk h1) (h.que.keptq hk) (Fr.refl _ _)
end Go.Proofs.Ytkhlkbgolonkkaa
