import Derived.Test.YtdkhhofgfbnmkaaGreatPf28
import Derived.Test.YtdkhhofgfbnmkaaGreatPf13
import Derived.Test.YtdkhhofgfbnmkaaGreatPf18
import Derived.Handy
import Derived.LoopN
/- The document's own machine with pages, and what lies in them. Own work. -/
namespace Go.Proofs.YtdkhhofgfbnmkaaGreat
open Go.RowKit Go.Maps Go.Proofs.YtdkhhofgfbnmkaaGreat.Sp Wk
/-- a row of n bytes and what they are -/
def P8 (w : World) (g n : Nat) (f : Nat → Nat) : Prop := ∃ cur : Array Value, w.heap[g]? = some (.cells cur 5 (0, 0)) ∧ ∀ i, i < n → cur[i]? = some (.int .u8 (f i : Int))
theorem P8.u8 {w : World} {g n : Nat} {f : Nat → Nat} (h : P8 w g n f) (hf : ∀ i, i < n → f i < 256) : U8 w g n := by
  obtain ⟨cur, h0, h1⟩ := h
  exact ⟨cur, h0, fun i hi => ⟨f i, hf i hi, h1 i hi⟩⟩
theorem P8.lt {w : World} {g n : Nat} {f : Nat → Nat} (h : P8 w g n f) : g < w.heap.size := by obtain ⟨_, h, _⟩ := h; exact (Array.getElem?_eq_some_iff.1 h).1
theorem P8.cell {w : World} {g n : Nat} {f : Nat → Nat} (h : P8 w g n f) (i : Nat) (hi : i < n) : w.cell? ⟨g, i, none⟩ = some (.int .u8 (f i : Int)) := by
  obtain ⟨cur, h0, h1⟩ := h
  rw [cell_of_row _ _ _ _ _ _ h0]
  exact h1 i hi
theorem P8.thawed {w : World} {g n : Nat} {f : Nat → Nat} (h : P8 w g n f) (i : Nat) : w.frozen? ⟨g, i, none⟩ = false := by
  obtain ⟨cur, h0, h1⟩ := h
  simp [World.frozen?, h0]
theorem P8.keeps {Z : Nat → Prop} {w w' : World} {g n : Nat} {f : Nat → Nat} (h : P8 w g n f) (hk : Keeps Z w w') (hn : ¬ Z g) : P8 w' g n f := by
  obtain ⟨cur, h0, h1⟩ := id h
  exact ⟨cur, (hk.block g h.lt hn).trans h0, h1⟩
theorem P8.congr {w : World} {g n : Nat} {f f' : Nat → Nat} (h : P8 w g n f) (he : ∀ i, i < n → f' i = f i) : P8 w g n f' := by
  obtain ⟨cur, h0, h1⟩ := h
  exact ⟨cur, h0, fun i hi => by rw [he i hi]; exact h1 i hi⟩
theorem P8.set {w : World} {g n : Nat} {f : Nat → Nat} (h : P8 w g n f) (o z : Nat) : P8 (w.setCell ⟨g, o, none⟩ (.int .u8 (z : Int))) g n (fun i => if i = o then z else f i) := by
  obtain ⟨cur, h0, h1⟩ := h
  refine ⟨cur.setIfInBounds o (.int .u8 (z : Int)), by simp [World.setCell, Array.getElem?_modify, h0], fun i hi => ?_⟩
  have h3 := h1 i hi
  have hb := (Array.getElem?_eq_some_iff.1 h3).1
  rw [Array.getElem?_setIfInBounds]
  by_cases e : i = o
  · subst e
    simp [hb]
  · rw [if_neg (fun h => e h.symm), h3]
    show _ = some (Value.int .u8 ((if i = o then z else f i : Nat) : Int))
    rw [if_neg e]
/-- a machine of the document's own and its memory -/
def RM (w : World) (base v : Nat) (vr vd vp : Value) (ps : List (Int × Nat)) (M : Nat → Nat) (L S X : Nat) : Prop :=
  base ≤ v ∧ RBox w v vr vd vp L S X ∧ OwnP w base vp ps ∧ (∀ x ∈ ps, base ≤ x.2 ∧ P8 w x.2 4096 (fun i => M (x.1.toNat * 4096 + i))) ∧ Pn ps ∧ (ps.map Prod.snd).Nodup ∧ (∀ p, M p < 256) ∧ ∀ p, (∀ x ∈ ps, x.1 ≠ ((p / 4096 : Nat) : Int)) → M p = 0
theorem RM.rs {w : World} {base v : Nat} {vr vd vp : Value} {ps : List (Int × Nat)} {M : Nat → Nat} {L S X : Nat} (h : RM w base v vr vd vp ps M L S X) : RS w base v vr vd vp ps L S X :=
  ⟨h.1, h.2.1, h.2.2.1, fun x hx => ⟨(h.2.2.2.1 x hx).1, (h.2.2.2.1 x hx).2.u8 (fun _ _ => h.2.2.2.2.2.2.1 _)⟩⟩
theorem RM.pn {w : World} {base v : Nat} {vr vd vp : Value} {ps : List (Int × Nat)} {M : Nat → Nat} {L S X : Nat} (h : RM w base v vr vd vp ps M L S X) : Pn ps := h.2.2.2.2.1
theorem RM.keeps {Z : Nat → Prop} {w w' : World} {base v : Nat} {vr vd vp : Value} {ps : List (Int × Nat)} {M : Nat → Nat} {L S X : Nat} (h : RM w base v vr vd vp ps M L S X) (hk : Keeps Z w w') (hn : ∀ j, VB base w j → ¬ Z j) : RM w' base v vr vd vp ps M L S X := by
  obtain ⟨k0, k1, k2, k3⟩ := h.rs.keeps hk hn
  refine ⟨k0, k1, k2, fun x hx => ?_, h.2.2.2.2⟩
  obtain ⟨h1, h2⟩ := h.2.2.2.1 x hx
  refine ⟨h1, h2.keeps hk (hn _ ?_)⟩
  obtain ⟨cur, hc, _⟩ := h2
  exact ⟨h1, cur, _, _, hc, .inr (.inr rfl)⟩
theorem RM.below {w w' : World} {base v : Nat} {vr vd vp : Value} {ps : List (Int × Nat)} {M : Nat → Nat} {L S X : Nat} (h : RM w base v vr vd vp ps M L S X) (hb : Below w.heap.size w w') : RM w' base v vr vd vp ps M L S X := h.keeps (Keeps.of_below (S := fun _ => False) hb) (fun _ _ h => h)
theorem nodup_fst {ps : List (Int × Nat)} (h : (ps.map Prod.fst).Nodup) {x y : Int × Nat} (hx : x ∈ ps) (hy : y ∈ ps) (e : x.1 = y.1) : x = y := by
  induction ps with
  | nil => simp at hx
  | cons z l ih =>
    rw [List.map_cons, List.nodup_cons] at h
    rcases List.mem_cons.1 hx with rfl | hx'
    · rcases List.mem_cons.1 hy with rfl | hy
      · rfl
      · exact absurd (e ▸ List.mem_map_of_mem hy) h.1
    · rcases List.mem_cons.1 hy with rfl | hy
      · exact absurd (e ▸ List.mem_map_of_mem hx') h.1
      · exact ih h.2 hx' hy
theorem nodup_snd {ps : List (Int × Nat)} (h : (ps.map Prod.snd).Nodup) {x y : Int × Nat} (hx : x ∈ ps) (hy : y ∈ ps) (e : x.2 = y.2) : x = y := by
  induction ps with
  | nil => simp at hx
  | cons z l ih =>
    rw [List.map_cons, List.nodup_cons] at h
    rcases List.mem_cons.1 hx with rfl | hx'
    · rcases List.mem_cons.1 hy with rfl | hy
      · rfl
      · exact absurd (e ▸ List.mem_map_of_mem hy) h.1
    · rcases List.mem_cons.1 hy with rfl | hy
      · exact absurd (e ▸ List.mem_map_of_mem hx') h.1
      · exact ih h.2 hx' hy
theorem put_one (M : Nat → Nat) (a z p : Nat) : putAt M a [z] p = if p = a then z else M p := by
  by_cases e : p = a
  · subst e
    have := putAt_in M p [z] 0 (by simp)
    simpa using this
  · rw [if_neg e]
    exact putAt_out M a [z] p (by simp; omega)
/-- a byte of a page is written -/
theorem RM.write {w : World} {base v : Nat} {vr vd vp : Value} {ps : List (Int × Nat)} {M : Nat → Nat} {L S X : Nat} (h : RM w base v vr vd vp ps M L S X) {x : Int × Nat} (hx : x ∈ ps) {t z : Nat} (ht : t < 4096) (hz : z < 256) : RM (w.setCell ⟨x.2, t, none⟩ (.int .u8 (z : Int))) base v vr vd vp ps (putAt M (x.1.toNat * 4096 + t) [z]) L S X := by
  obtain ⟨k0, k1, k2, k3⟩ := h.rs.write (h.rs.2.2.2 x hx).2 t z hz
  refine ⟨k0, k1, k2, fun y hy => ⟨(k3 y hy).1, ?_⟩, h.pn, h.2.2.2.2.2.1, fun p => ?_, fun p hp => ?_⟩
  · by_cases e : y.2 = x.2
    · obtain rfl := nodup_snd h.2.2.2.2.2.1 hy hx e
      refine ((h.2.2.2.1 y hx).2.set t z).congr fun i hi => ?_
      rw [put_one]
      by_cases ei : i = t
      · rw [if_pos ei, if_pos (by omega)]
      · rw [if_neg ei, if_neg (by omega)]
    · refine ((h.2.2.2.1 y hy).2.keeps (Keeps.setCell w x.2 t _) e).congr fun i hi => ?_
      rw [put_one, if_neg]
      intro hh
      have h1 := h.pn.2 x hx
      have h2 := h.pn.2 y hy
      exact e (congrArg Prod.snd (nodup_fst h.pn.1 hy hx (by omega)))
  · rw [put_one]
    split
    · exact hz
    · exact h.2.2.2.2.2.2.1 p
  · rw [put_one, if_neg]
    · exact h.2.2.2.2.2.2.2 p hp
    · intro hh
      have h1 := h.pn.2 x hx
      exact hp x hx (by omega)
/-- a page of zeros is added -/
theorem RM.app {w w2 : World} {base v : Nat} {vr vd vp v2 : Value} {ps : List (Int × Nat)} {M : Nat → Nat} {L S X : Nat} (h : RM w base v vr vd vp ps M L S X) (hb : base ≤ w.heap.size) (pg : Nat) (hpg : pg ≤ 2097152) (hnew : ∀ x ∈ ps, x.1 ≠ (pg : Int)) (ho : OwnP w2 base v2 (ps ++ [((pg : Int), w.heap.size)])) (hg : (W2 w (pg : Int)).grownBy w2 vp.ownBlock) :
    RM (w2.setCell ⟨v, 2, none⟩ v2) base v vr vd v2 (ps ++ [((pg : Int), w.heap.size)]) M L S X ∧ Kv base w (w2.setCell ⟨v, 2, none⟩ v2) ∧ (∀ g n f, P8 w g n f → P8 (w2.setCell ⟨v, 2, none⟩ v2) g n f) ∧ w2.cell? ⟨v, 2, none⟩ = some vp ∧ w2.frozen? ⟨v, 2, none⟩ = false ∧ base ≤ (w2.setCell ⟨v, 2, none⟩ v2).heap.size := by
  obtain ⟨⟨r0, r1, r2, r3⟩, kv, _, c2, f2, s2⟩ := h.rs.app hb (pg : Int) ho hg
  have hvb : ∀ k, vp.ownBlock = some k → base ≤ k ∧ ∃ cur, w.heap[k]? = some (.cells cur 52 (0, 0)) := by
    obtain ⟨_, _, _, _, _, hf⟩ := h.2.2.1.form
    exact hf
  have b1 := h.2.1
  have kk : Keeps (fun j => vp.ownBlock = some j ∨ j = v) w (w2.setCell ⟨v, 2, none⟩ v2) := (((W2.keeps w (pg : Int)).mono (S' := fun j => vp.ownBlock = some j ∨ j = v) fun _ _ e => e.elim).trans ((Keeps.of_grown hg).mono (S' := fun j => vp.ownBlock = some j ∨ j = v) fun _ _ e => .inl e) fun _ _ e => e).trans (Keeps.setCell w2 v 2 v2) fun _ _ e => .inr e
  have u0 : ∀ g n f, P8 w g n f → P8 (w2.setCell ⟨v, 2, none⟩ v2) g n f := fun g n f hu => hu.keeps kk (fun e => by
    obtain ⟨cur', hc', _⟩ := hu
    rcases e with e | e
    · obtain ⟨_, cur, hc⟩ := hvb g e
      rw [hc] at hc'
      cases hc'
    · rw [e, show w.heap[v]? = _ from b1] at hc'
      cases hc')
  refine ⟨⟨r0, r1, r2, fun x hx => ⟨(r3 x hx).1, ?_⟩, h.pn.add _ hnew ⟨by omega, by omega⟩, ?_, h.2.2.2.2.2.2.1, fun p hp => h.2.2.2.2.2.2.2 p fun x hx => hp x (List.mem_append.2 (.inl hx))⟩, kv, u0, c2, f2, s2⟩
  · rcases List.mem_append.1 hx with hx | hx
    · exact u0 _ _ _ (h.2.2.2.1 x hx).2
    · obtain rfl := List.mem_singleton.1 hx
      have hz : P8 (W2 w (pg : Int)) w.heap.size 4096 (fun i => M ((pg : Int).toNat * 4096 + i)) := by
        refine ⟨zc, ?_, fun i hi => ?_⟩
        · show ((w.heap.push _).push _)[w.heap.size]? = _
          rw [Array.getElem?_push, if_neg (by simp), Array.getElem?_push_size]
        · show _ = some (Value.int .u8 ((M ((pg : Int).toNat * 4096 + i) : Nat) : Int))
          rw [zc_get i hi, h.2.2.2.2.2.2.2 _ fun x hx => ?_]
          have := hnew x hx
          intro e
          exact this (e.trans (by omega))
      refine (hz.keeps (Keeps.of_grown hg) (fun e => ?_)).keeps (Keeps.setCell w2 v 2 v2) (fun e => ?_)
      · obtain ⟨_, cur, hc⟩ := hvb _ e
        have := (Array.getElem?_eq_some_iff.1 hc).1
        omega
      · have e : w.heap.size = v := e
        have := b1.lt
        omega
  · rw [List.map_append, List.nodup_append]
    refine ⟨h.2.2.2.2.2.1, by simp, fun a ha b hb e => ?_⟩
    obtain ⟨x, hx, rfl⟩ := List.mem_map.1 ha
    simp only [List.map_cons, List.map_nil, List.mem_singleton] at hb
    have := (h.2.2.2.1 x hx).2.lt
    omega
set_option maxHeartbeats 2000000 in
theorem rfind_at {w : World} {base v : Nat} {vr vd vp : Value} {ps : List (Int × Nat)} {L S X : Nat} {k : Int} (h : RS w base v vr vd vp ps L S X) (hl : ps.length ≤ 1099511627776) : Calls Tryz.prog 57 #[.pointer (some ⟨v, 0, none⟩), .int .u64 k] w fun e w' => ∃ j : Int, e = .returned (.int .i64 j) ∧ Hid ((j = -1 ∧ ∀ x ∈ ps, x.1 ≠ k) ∨ ∃ i : Nat, j = (i : Int) ∧ ∃ hi : i < ps.length, (ps[i]'hi).1 = k) ∧ w = w' := by
  obtain ⟨h0, h1, h2, h3⟩ := h
  obtain ⟨_, _, c2, _, _, _⟩ := h1.cells
  obtain ⟨a, c, rfl, hc1, hc2, _⟩ := h2.form
  have HC := Lib.hid (fun j hj => h2.cell j hj)
  unfold maxLen at hc2
  obtain ⟨N, hN⟩ : ∃ N, N = ps.length := ⟨_, rfl⟩
  rw [← hN] at c2 hc1 hl
  have HN : Hid (N = ps.length) := hN
  clear h0 h1 h2 h3 hN
  go_enter Tryz.func57, Tryz.ntmps57
  go_wp2_with fail
  go_loop [5] (fun iv => ∃ q : Nat, q ≤ N ∧ iv = .int .i64 (q : Int) ∧ Hid (∀ x ∈ ps.take q, x.1 ≠ k)) (fun iv => N - (intOf iv).toNat)
  case atStart => exact ⟨0, Nat.zero_le _, rfl, by simp [Hid]⟩
  case round =>
    obtain ⟨q, hq, rfl, HQ⟩ := hrel
    by_cases hlt : q < N
    · obtain ⟨g, rfl, d0, d1⟩ := HC.out q (by rw [← HN.out]; exact hlt)
      have HT : Hid (ps[q].1 ≠ k → ∀ x ∈ ps.take (q + 1), x.1 ≠ k) := fun hne x hx => by
        rw [List.take_add_one, List.getElem?_eq_getElem (by rw [← HN.out]; exact hlt)] at hx
        rcases List.mem_append.1 hx with hx | hx
        · exact HQ.out x hx
        · rw [List.mem_singleton.1 hx]; exact hne
      obtain ⟨x, hx⟩ : ∃ x, x = (ps[q]'(by rw [← HN.out]; exact hlt)).1 := ⟨_, rfl⟩
      have HX : Hid (x = (ps[q]'(by rw [← HN.out]; exact hlt)).1) := hx
      rw [← hx] at d0
      clear hx
      have qi : (q : Int) < (N : Int) := by omega
      by_cases e : x = k
      · subst e
        go_wp2_with fail
        go_ret
        exact ⟨q, rfl, .inr ⟨q, rfl, by rw [← HN.out]; exact hlt, HX.out.symm⟩, rfl⟩
      · have he : (x == k) = false := by simpa using e
        go_wp2_with fail
        go_round
        case rel => exact ⟨q + 1, by omega, by go_num, HT.out (HX.out ▸ e)⟩
        case measure => simp [intOf]; omega
    · go_wp2_with fail
      go_ret
      exact ⟨-1, rfl, .inl ⟨rfl, by have h := HQ.out; rw [show q = ps.length by rw [← HN.out]; omega, List.take_length] at h; first | exact h | exact fun a b hab => h (a, b) hab⟩, rfl⟩
end Go.Proofs.YtdkhhofgfbnmkaaGreat
/- The document's own machine with pages: its lay, and what lies there then. Own work. -/
namespace Go.Proofs.YtdkhhofgfbnmkaaGreat
open Go.RowKit Go.Maps Go.Proofs.YtdkhhofgfbnmkaaGreat.Sp Wk
theorem putAt_step (M : Nat → Nat) (a : Nat) (xs : List Nat) (s : Nat) (h : s < xs.length) : putAt (putAt M a (xs.take s)) (a + s) [xs.getD s 0] = putAt M a (xs.take (s + 1)) := by
  have e : (xs.take s).length = s := by rw [List.length_take]; omega
  have := putAt_append M a (xs.take s) [xs.getD s 0]
  rw [e] at this
  rw [this, List.take_add_one, List.getElem?_eq_getElem h, List.getD_eq_getElem?_getD, List.getElem?_eq_getElem h]
  rfl
/-- what lay keeps: s bytes are laid -/
def LayM (w0 w : World) (base v : Nat) (vr vd : Value) (L S X gb : Nat) (xs : List Nat) (M : Nat → Nat) (a s : Nat) (vp : Value) (ps : List (Int × Nat)) : Prop := RM w base v vr vd vp ps (putAt M a (xs.take s)) L S X ∧ P8 w gb xs.length (fun i => xs.getD i 0) ∧ Kv base w0 w ∧ (∀ x ∈ ps, x.2 ≠ gb) ∧ base ≤ w.heap.size
theorem LayM.write {w0 w : World} {base v : Nat} {vr vd vp : Value} {L S X gb a s : Nat} {xs : List Nat} {M : Nat → Nat} {ps : List (Int × Nat)} (h : LayM w0 w base v vr vd L S X gb xs M a s vp ps) {x : Int × Nat} (hx : x ∈ ps) {t : Nat} (ht : t < 4096) (hs : s < xs.length) (hz : ∀ z ∈ xs, z < 256) (he : x.1.toNat * 4096 + t = a + s) : LayM w0 (w.setCell ⟨x.2, t, none⟩ (.int .u8 ((xs.getD s 0 : Nat) : Int))) base v vr vd L S X gb xs M a (s + 1) vp ps := by
  have hzs : xs.getD s 0 < 256 := by
    rw [List.getD_eq_getElem?_getD, List.getElem?_eq_getElem hs]
    exact hz _ (List.getElem_mem hs)
  have h1 := h.1.write hx ht hzs
  rw [he, putAt_step M a xs s hs] at h1
  refine ⟨h1, h.2.1.keeps (Keeps.setCell w x.2 t _) (fun e => h.2.2.2.1 x hx e.symm), h.2.2.1.trans (Kv.of (Keeps.setCell w x.2 t _) (fun k _ e => ?_)), h.2.2.2.1, Nat.le_trans h.2.2.2.2 (Keeps.setCell w x.2 t (.int .u8 ((xs.getD s 0 : Nat) : Int))).size⟩
  have e : k = x.2 := e
  subst e
  obtain ⟨hb, cur, hc, _⟩ := h.1.2.2.2.1 x hx
  exact ⟨hb, cur, _, _, hc, .inr (.inr rfl)⟩
set_option maxRecDepth 100000 in
set_option maxHeartbeats 2000000 in
theorem rlay_at {w : World} {base v : Nat} {vr vd vp : Value} {ps : List (Int × Nat)} {M : Nat → Nat} {L S X a n gb cb : Nat} {xs : List Nat} (h : RM w base v vr vd vp ps M L S X) (hb : base ≤ w.heap.size) (hB : P8 w gb xs.length (fun i => xs.getD i 0)) (hnb : ∀ x ∈ ps, x.2 ≠ gb) (hxl : xs.length = n) (hxs : ∀ z ∈ xs, z < 256) (hn : n ≤ 8) (hcb : n ≤ cb) (ha : a + n ≤ 4294967400) :
    Calls Tryz.prog 34 #[.pointer (some ⟨v, 0, none⟩), .int .u64 (a : Int), .slice (some ⟨gb, 0, none⟩) n cb, .int .i64 (n : Int), .int .u8 0] w fun e w' => e = .returned (.tuple #[]) ∧ ∃ vp' ps', RM w' base v vr vd vp' ps' (putAt M a xs) L S X ∧ Kv base w w' := by
  have HI0 : Hid (∃ vp' ps', LayM w w base v vr vd L S X gb xs M a 0 vp' ps') := ⟨vp, ps, by rw [List.take_zero, putAt_nil]; exact h, hB, Kv.refl _ _, hnb, hb⟩
  have HXl := Lib.hid hxl
  have HXs := Lib.hid hxs
  have hgb := hB.lt
  clear h hB hb hnb hxl hxs
  have hmk : ∀ W : World, (Instr.makeSlice 50 (.int .i64 4096) (.int .i64 4096)).run Tryz.prog W = .ok (.slice (some ⟨W.heap.size, 0, none⟩) 4096 4096) (W.alloc (.cells zc 5)) := make_page
  go_enter Tryz.func34, Tryz.ntmps34
  go_wp2_with fail
  go_loopw [10] (fun iv wr => ∃ i : Nat, i ≤ n ∧ iv = .int .i64 (i : Int) ∧ Hid (∃ vp' ps', LayM w wr base v vr vd L S X gb xs M a i vp' ps')) (fun iv _ => n - (intOf iv).toNat)
  case atStart => exact ⟨0, Nat.zero_le _, rfl, HI0⟩
  case round =>
    obtain ⟨i, hi, rfl, HI⟩ := hrel
    by_cases hlt : i < n
    · obtain ⟨vp1, ps1, HI1⟩ := HI.out
      have HL := Lib.hid HI1
      clear HI1 HI HI0
      have qi : (i : Int) < (n : Int) := by omega
      have hai : (a : Int) + (i : Int) ≤ 18446744073709551615 := by omega
      obtain ⟨fr, hfr, hfr2⟩ : ∃ fr : Nat, ((a : Int) + (i : Int)) % 4096 = (fr : Int) ∧ fr < 4096 := ⟨(a + i) % 4096, by omega, by omega⟩
      obtain ⟨pg, hpg⟩ : ∃ pg : Nat, ((a : Int) + (i : Int)) / 4096 = (pg : Int) := ⟨(a + i) / 4096, by omega⟩
      have hw1 : IntKind.u64.wrap ((a : Int) + (i : Int)) = (a : Int) + (i : Int) := by rw [IntKind.wrap_u64]; omega
      have HF : Hid (Calls Tryz.prog 57 #[.pointer (some ⟨v, 0, none⟩), .int .u64 (pg : Int)] wr fun e w' => ∃ j : Int, e = .returned (.int .i64 j) ∧ Hid ((j = -1 ∧ ∀ x ∈ ps1, x.1 ≠ (pg : Int)) ∨ ∃ i : Nat, j = (i : Int) ∧ ∃ hi : i < ps1.length, (ps1[i]'hi).1 = (pg : Int)) ∧ wr = w') := rfind_at HL.out.1.rs (by have := HL.out.1.pn.len; omega)
      obtain ⟨k, hk1, hk2, hk3, hkk⟩ : ∃ k : Nat, 1 ≤ k ∧ k ≤ n - i ∧ k + fr ≤ 4096 ∧ Hid ((decide ((k : Int) < 4096 - (fr : Int)) = true ∧ (n : Int) - (i : Int) = (k : Int)) ∨ (decide ((n : Int) - (i : Int) < (k : Int)) = false ∧ (4096 : Int) - (fr : Int) = (k : Int))) := by
        by_cases hc : n - i < 4096 - fr
        · exact ⟨n - i, by omega, by omega, by omega, .inl ⟨by simp; omega, by omega⟩⟩
        · exact ⟨4096 - fr, by omega, by omega, by omega, .inr ⟨by simp; omega, by omega⟩⟩
      go_upto_if 31 with fail
      go_cut [12] (fun s wx => s = .int .i64 (k : Int) ∧ wx = wr)
      case first =>
        rcases hkk.out with ⟨hci, hk⟩ | ⟨hci, hk⟩
        · have hcp : (n : Int) - (i : Int) < 4096 - (fr : Int) := by rw [hk]; exact of_decide_eq_true hci
          clear hci
          rw [hk] at hcp
          go_wp2_with fail
          go_meet
          exact ⟨rfl, rfl⟩
        · have hcp : ¬ (n : Int) - (i : Int) < (k : Int) := of_decide_eq_false hci
          clear hci
          go_wp2_with fail
          go_meet
          exact ⟨rfl, rfl⟩
      case rest =>
        obtain ⟨rfl, rfl⟩ := hcut
        clear hkk
        go_wp2_with fail
        refine HF.out.mono ?_
        rintro e w1 ⟨j, rfl, hj, rfl⟩
        clear HF
        go_upto_region 7 with fail
        go_cut [51] (fun s wx => s = .bool (decide (j < 0)) ∧ wx = wc)
        case first =>
          rcases hj.out with ⟨rfl, hjx⟩ | ⟨j0, rfl, hj0, hj1⟩
          · go_wp2_with fail
            go_meet
            exact ⟨rfl, rfl⟩
          · have hjn : decide ((j0 : Int) < 0) = false := by simp
            go_wp2_with fail
            go_meet
            exact ⟨by go_num, rfl⟩
        case rest =>
          obtain ⟨rfl, hwc⟩ := hcut
          subst hwc
          go_upto_if 51 with fail
          go_cut [13] (fun s wx => ∃ (jj : Nat) (vp2 : Value) (ps2 : List (Int × Nat)), s = .int .i64 (jj : Int) ∧ Hid (∃ hi : jj < ps2.length, (ps2[jj]'hi).1 = (pg : Int)) ∧ Hid (LayM w wx base v vr vd L S X gb xs M a i vp2 ps2))
          case first =>
            rcases hj.out with ⟨rfl, hjx⟩ | ⟨j0, rfl, hj0, hj1⟩
            · clear hj
              have HJX := Lib.hid hjx
              clear hjx
              obtain ⟨c0, c1, c2, _⟩ := HL.out.1.2.1.cells
              have hvl := HL.out.1.2.1.lt
              have hv1 : v ≠ wc.heap.size := by omega
              have hv2 : v ≠ wc.heap.size + 1 := by omega
              obtain ⟨a1, cc, hvp, hc1, hc2, _⟩ := HL.out.1.2.2.1.form
              unfold maxLen at hc2
              obtain ⟨n1, hn1⟩ : ∃ n1, n1 = ps1.length := ⟨_, rfl⟩
              have HN1 : Hid (n1 = ps1.length) := hn1
              rw [← hn1] at hvp hc1
              have hn1l : n1 ≤ 2097153 := by rw [HN1.out]; exact HL.out.1.pn.len
              subst hvp
              clear hn1
              have HO : Hid (OwnP (W2 wc (pg : Int)) base (.slice a1 n1 cc) ps1) := HL.out.1.2.2.1.keeps (W2.keeps wc (pg : Int)) (fun _ _ e => e)
              have HC : Hid ((W2 wc (pg : Int)).cell? ⟨wc.heap.size + 1, 0, none⟩ = some (.int .u64 (pg : Int)) ∧ (W2 wc (pg : Int)).cell? ⟨wc.heap.size + 1, 1, none⟩ = some (.slice (some ⟨wc.heap.size, 0, none⟩) 4096 4096)) := W2.cells wc (pg : Int)
              have HA : Hid (∀ v2 w2, OwnP w2 base v2 (ps1 ++ [((pg : Int), wc.heap.size)]) → (W2 wc (pg : Int)).grownBy w2 (Value.slice a1 n1 cc).ownBlock → LayM w (w2.setCell ⟨v, 2, none⟩ v2) base v vr vd L S X gb xs M a i v2 (ps1 ++ [((pg : Int), wc.heap.size)]) ∧ w2.cell? ⟨v, 2, none⟩ = some (.slice a1 n1 cc) ∧ w2.frozen? ⟨v, 2, none⟩ = false) := fun v2 w2 ho hg => by
                obtain ⟨r1, r2, r3, r4, r5, r6⟩ := HL.out.1.app HL.out.2.2.2.2 pg (by omega) HJX.out ho hg
                refine ⟨⟨r1, r3 _ _ _ HL.out.2.1, HL.out.2.2.1.trans r2, fun x hx => ?_, r6⟩, r4, r5⟩
                rcases List.mem_append.1 hx with hx | hx
                · exact HL.out.2.2.2.1 x hx
                · rw [List.mem_singleton.1 hx]
                  have := HL.out.2.1.lt
                  show wc.heap.size ≠ gb
                  omega
              have HBs : Hid (base ≤ (W2 wc (pg : Int)).heap.size) := Nat.le_trans HL.out.2.2.2.2 (W2.keeps wc (pg : Int)).size
              have hw0 : IntKind.u64.wrap (i : Int) = (i : Int) := by rw [IntKind.wrap_u64]; omega
              have hw2 : IntKind.u64.wrap (((a : Int) + (i : Int)).tdiv 4096) = (pg : Int) := by rw [Int.tdiv_eq_ediv_of_nonneg (by omega), hpg, IntKind.wrap_u64]; omega
              have HLn : Hid (ps1.length ≤ 1099511627776) := by show _ ≤ _; rw [← HN1.out]; omega
              go_wp2_with fail
              go_region_law (refine step_appP (base := base) (v := .slice a1 n1 cc) (ps := ps1) (x := ((pg : Int), wc.heap.size)) (by kernel_rfl) (.tmp 61) (.tmp 69) (by rfl) (by rfl) (by exact HO.out) (by rfl) (by exact HC.out.1) (by exact HC.out.2) HLn.out (by exact HBs.out) ?_; intro va vn vc w2 ho hg; obtain ⟨hl2, hc2, hf2⟩ := HA.out _ w2 ho hg; have HL2 := Lib.hid hl2; clear hl2 ho hg)
              all_goals
                go_wp2_with fail
                go_meet
                exact ⟨n1, _, _, rfl, ⟨by rw [HN1.out, List.length_append]; exact Nat.lt_succ_self _, by simp [HN1.out]⟩, HL2⟩
            · clear hj
              have HJ : Hid (∃ hi : j0 < ps1.length, (ps1[j0]'hi).1 = (pg : Int)) := ⟨hj0, hj1⟩
              clear hj0 hj1
              have HL2 : Hid (LayM w wc base v vr vd L S X gb xs M a i vp1 ps1) := HL.out
              go_wp2_with fail
              go_meet
              exact ⟨j0, _, _, rfl, HJ, HL2⟩
          case rest =>
            obtain ⟨jj, vp2, ps2, rfl, HJ, HL2⟩ := hcut
            clear hj HL
            have jj0 : (0 : Int) ≤ (jj : Int) := Int.natCast_nonneg _
            go_wp2_with fail
            go_loopw [14] (fun qv wq => ∃ q : Nat, q ≤ k ∧ qv = .int .i64 (q : Int) ∧ Hid (LayM w wq base v vr vd L S X gb xs M a (i + q) vp2 ps2)) (fun qv _ => k - (intOf qv).toNat)
            case atStart => exact ⟨0, Nat.zero_le _, rfl, HL2⟩
            case round =>
              obtain ⟨q, hq, rfl, HQ⟩ := hrel
              by_cases hqk : q < k
              · have qki : (q : Int) < (k : Int) := by omega
                obtain ⟨c0, c1, c2, _⟩ := HQ.out.1.2.1.cells
                obtain ⟨a1, cc, hvp, hc1, hc2, _⟩ := HQ.out.1.2.2.1.form
                unfold maxLen at hc2
                obtain ⟨n1, hn1⟩ : ∃ n1, n1 = ps2.length := ⟨_, rfl⟩
                have HN1 : Hid (n1 = ps2.length) := hn1
                rw [← hn1] at hvp hc1
                have hjn : jj < n1 := by rw [HN1.out]; exact HJ.out.1
                subst hvp
                clear hn1
                obtain ⟨g, rfl, d0, d1⟩ := HQ.out.1.2.2.1.cell jj HJ.out.1
                obtain ⟨X0, hX0⟩ : ∃ X0, X0 = ps2[jj]'HJ.out.1 := ⟨_, rfl⟩
                rw [← hX0] at d0 d1
                have HXM : Hid (X0 ∈ ps2) := hX0 ▸ List.getElem_mem HJ.out.1
                have HX1 : Hid (X0.1 = (pg : Int)) := hX0 ▸ HJ.out.2
                clear hX0
                obtain ⟨_, hxu⟩ := HQ.out.1.2.2.2.1 X0 HXM.out
                have HXU := Lib.hid hxu
                obtain ⟨x, hx⟩ : ∃ x, x = X0.2 := ⟨_, rfl⟩
                have HX2 : Hid (x = X0.2) := hx
                rw [← hx] at d1 HXU
                clear hx hxu
                obtain ⟨s, hs, hs2⟩ : ∃ s : Nat, (i : Int) + (q : Int) = (s : Int) ∧ s < n := ⟨i + q, by omega, by omega⟩
                obtain ⟨t, ht, ht2⟩ : ∃ t : Nat, (fr : Int) + (q : Int) = (t : Int) ∧ t < 4096 := ⟨fr + q, by omega, by omega⟩
                have hcz := HQ.out.2.1.cell s (by rw [HXl.out]; exact hs2)
                obtain ⟨y, hcy⟩ : ∃ y : Nat, wr.cell? ⟨x, t, none⟩ = some (.int .u8 (y : Int)) := ⟨_, HXU.out.cell t ht2⟩
                have hfz := HXU.out.thawed t
                have HW : Hid (LayM w (wr.setCell ⟨x, t, none⟩ (.int .u8 ((xs.getD s 0 : Nat) : Int))) base v vr vd L S X gb xs M a (i + (q + 1)) (.slice (some ⟨g, 0, none⟩) n1 cc) ps2) := by
                  rw [HX2.out, show i + (q + 1) = s + 1 by omega]
                  exact LayM.write (by rw [show s = i + q by omega]; exact HQ.out) HXM.out ht2 (by rw [HXl.out]; exact hs2) HXs.out (by rw [HX1.out]; omega)
                generalize xs.getD s 0 = z at hcz HW
                go_wp2_with fail
                exact ⟨⟨q + 1, by omega, by go_num, HW⟩, by simp [intOf]; omega⟩
              · go_wp2_with fail
                refine ⟨⟨i + k, by omega, by go_num, ?_⟩, by simp [intOf]; omega⟩
                obtain rfl : q = k := by omega
                exact ⟨_, _, HQ.out⟩
    · obtain rfl : i = n := by omega
      go_wp2_with fail
      go_end0
      obtain ⟨vp1, ps1, h1⟩ := HI.out
      have h2 := h1.1
      rw [List.take_of_length_le (by rw [HXl.out]; exact Nat.le_refl _)] at h2
      exact ⟨rfl, vp1, ps1, h2, h1.2.2.1⟩
end Go.Proofs.YtdkhhofgfbnmkaaGreat
/- The document's own access; its Load of a byte where nothing was laid. Own work. -/
namespace Go.Proofs.YtdkhhofgfbnmkaaGreat
open Go.RowKit Go.Maps Go.Proofs.YtdkhhofgfbnmkaaGreat.Sp
/-- the document's own Fault in its box -/
def BoxG (w : World) (b : Nat) (x y : Int) : Prop := w.heap[b]? = some (.cells #[.int .i64 x, .int .u64 y] 41 (0, 0))
theorem BoxG.cells {w : World} {b : Nat} {x y : Int} (h : BoxG w b x y) : w.cell? ⟨b, 0, none⟩ = some (.int .i64 x) ∧ w.cell? ⟨b, 1, none⟩ = some (.int .u64 y) ∧ w.frozen? ⟨b, 0, none⟩ = false ∧ w.frozen? ⟨b, 1, none⟩ = false := by
  refine ⟨?_, ?_, by simp [World.frozen?, show w.heap[b]? = _ from h], by simp [World.frozen?, show w.heap[b]? = _ from h]⟩ <;> rw [cell_of_row w b _ _ _ _ h] <;> rfl
theorem BoxG.set {w : World} {b : Nat} {x y : Int} (h : BoxG w b x y) (x' y' : Int) : BoxG ((w.setCell ⟨b, 0, none⟩ (.int .i64 x')).setCell ⟨b, 1, none⟩ (.int .u64 y')) b x' y' := by
  have h' : w.heap[b]? = _ := h
  simp [BoxG, World.setCell, Array.getElem?_modify, h']
theorem BoxG.lt {w : World} {b : Nat} {x y : Int} (h : BoxG w b x y) : b < w.heap.size := (Array.getElem?_eq_some_iff.1 h).1
theorem BoxG.below {w w' : World} {b : Nat} {x y : Int} (h : BoxG w b x y) (hb : Below w.heap.size w w') : BoxG w' b x y := (hb.block b h.lt).trans h
theorem BoxG.keeps {Z : Nat → Prop} {w w' : World} {b : Nat} {x y : Int} (h : BoxG w b x y) (hk : Keeps Z w w') (hn : ¬ Z b) : BoxG w' b x y := (hk.block b h.lt hn).trans h
theorem BoxG.new (w : World) (x y : Int) : BoxG (w.alloc (Obj.cells #[.int .i64 x, .int .u64 y] 41)) w.heap.size x y := heap_alloc_new w _
/-- what the document's own access answers -/
def RAsk (w : World) (m : Nat) (vr vd vp : Value) (LL : List Sp) (L S X a n : Nat) (e : Ending) (w' : World) : Prop :=
  ∃ x b, OffR LL a n x b ∧ e = .returned (FaultV (if b then 30 else 0) x) ∧ RBox w' m vr vd vp L S (up b X) ∧ Keeps (fun j => j = m) w w'
set_option maxRecDepth 100000 in
set_option maxHeartbeats 4000000 in
theorem raccess_any {w : World} {m : Nat} {vr vd vp : Value} {rs ds : List Sp} {L S X a n : Nat} (h : RBox w m vr vd vp L S X) (hr : U64.SV w vr rs) (hd : U64.SV w vd ds) (hs : Sane (rs ++ ds)) (hl : rs.length + ds.length ≤ 64) (ha : a ≤ 18446744073709551615) (hn : n ≤ 9223372036854775807) (hX : X ≤ 4611686018427387904) :
    Calls Tryz.prog 33 #[.pointer (some ⟨m, 0, none⟩), .int .u64 (a : Int), .int .i64 (n : Int)] w (RAsk w m vr vd vp (rs ++ ds) L S X a n) := by
  have HM : Hid (RBox w m vr vd vp L S X) := h
  have HO : Hid (∀ W, Below w.heap.size w W → Calls Tryz.prog 56 #[.pointer (some ⟨m, 0, none⟩), .int .u64 (a : Int), .int .i64 (n : Int)] W fun e w' => OffE (rs ++ ds) a n e ∧ Below W.heap.size W w') := fun W hW => roff_any (h.below hW) (hr.below hW (Nat.le_refl _)) (hd.below hW (Nat.le_refl _)) hs hl ha hn
  generalize rs ++ ds = LL at *
  clear h hr hd hs hl
  go_enter Tryz.func33, Tryz.ntmps33
  go_wp2_with fail
  refine (HO.out _ ((Below.refl _ _).alloc (Nat.le_refl _) _)).mono ?_
  rintro e w1 ⟨⟨x, b, rfl, ho⟩, hb1⟩
  have HOff : Hid (OffR LL a n x b) := ho
  have HB1 : Hid (Below w.heap.size w w1) := ((Below.refl _ _).alloc (Nat.le_refl _) _).trans (hb1.mono (by simp))
  have HX1 : Hid (BoxG w1 w.heap.size 0 0) := (BoxG.new w 0 0).below hb1
  have HM1 : Hid (RBox w1 m vr vd vp L S X) := HM.out.below HB1.out
  obtain ⟨x0, x1, f0, f1⟩ := HX1.out.cells
  obtain ⟨_, _, _, _, _, c5⟩ := HM1.out.cells
  have g5 := HM1.out.thawed 5
  have hml := HM.out.lt
  clear ho hb1 HO
  cases b with
  | false =>
    go_wp2_with fail
    obtain ⟨d0, d1, _⟩ := (HX1.out.set 0 0).cells
    refine bodyPost_ret (v := .agg #[.int .i64 0, .int .u64 0]) (by simp [results, Tryz.results33, go_sem, d0, d1]) rfl ?_
    have hb2 := (HB1.out.setCell (p := ⟨w.heap.size, 0, none⟩) (Nat.le_refl _) (.int .i64 0)).setCell (p := ⟨w.heap.size, 1, none⟩) (Nat.le_refl _) (.int .u64 0)
    refine ⟨x, false, HOff.out, ?_, HM.out.below hb2, Keeps.of_below hb2⟩
    rw [(HOff.out.2 rfl).1]
    rfl
  | true =>
    have hb3 : BoxG (w1.setCell ⟨m, 5, none⟩ (.int .i64 ((X : Int) + 1))) w.heap.size 0 0 := HX1.out.keeps (Keeps.setCell _ _ _ _) (by omega)
    have HX3 : Hid (BoxG (w1.setCell ⟨m, 5, none⟩ (.int .i64 ((X : Int) + 1))) w.heap.size 0 0) := hb3
    obtain ⟨y0, y1, k0, k1⟩ := hb3.cells
    clear hb3
    go_wp2_with fail
    obtain ⟨d0, d1, _⟩ := (HX3.out.set 30 x).cells
    refine bodyPost_ret (v := .agg #[.int .i64 30, .int .u64 x]) (by simp [results, Tryz.results33, go_sem, d0, d1]) rfl ?_
    have hk : Keeps (fun j => j = m) w (((w1.setCell ⟨m, 5, none⟩ (.int .i64 ((X : Int) + 1))).setCell ⟨w.heap.size, 0, none⟩ (.int .i64 30)).setCell ⟨w.heap.size, 1, none⟩ (.int .u64 x)) :=
      (((Keeps.of_below (S := fun j => j = m) HB1.out).trans (Keeps.setCell _ _ _ _) (fun _ _ e => e)).trans (Keeps.setCell _ _ _ _) (fun i hi e => absurd e (by omega))).trans (Keeps.setCell _ _ _ _) (fun i hi e => absurd e (by omega))
    refine ⟨x, true, HOff.out, rfl, ?_, hk⟩
    unfold RBox
    rw [Below.heap_setCell _ _ _ _ (show m ≠ w.heap.size by omega), Below.heap_setCell _ _ _ _ (show m ≠ w.heap.size by omega)]
    have h1 : w1.heap[m]? = _ := HM1.out
    simp only [World.setCell, Array.getElem?_modify]
    rw [if_pos trivial, h1]
    simp [up]
set_option maxHeartbeats 1000000 in
theorem rfind_none {w : World} {m : Nat} {vr vd : Value} {L S X : Nat} {k : Int} (h : RBox w m vr vd (.slice none 0 0) L S X) : Calls Tryz.prog 57 #[.pointer (some ⟨m, 0, none⟩), .int .u64 k] w fun e w' => e = .returned (.int .i64 (-1)) ∧ w' = w := by
  obtain ⟨_, _, c2, _, _, _⟩ := h.cells
  clear h
  go_enter Tryz.func57, Tryz.ntmps57
  go_wp2_with fail
  refine wp_loop_rounds 1 ?_
  rw [rounds_succ]
  go_wp2_with fail
  go_ret
  exact ⟨rfl, rfl⟩
set_option maxHeartbeats 1000000 in
theorem right_one (w : World) : Calls Tryz.prog 32 #[.int .i64 1] w fun e w' => e = .returned (.bool true) ∧ w' = w := by
  go_enter Tryz.func32, Tryz.ntmps32
  go_wp2_with fail
  go_ret
  exact ⟨rfl, rfl⟩
set_option maxRecDepth 100000 in
set_option maxHeartbeats 4000000 in
theorem rbytes_one {w : World} {m : Nat} {vr vd : Value} {L S X : Nat} {a : Int} (h : RBox w m vr vd (.slice none 0 0) L S X) (ha : 0 ≤ a ∧ a ≤ 4294967296) :
    Calls Tryz.prog 93 #[.pointer (some ⟨m, 0, none⟩), .int .u64 a, .int .i64 1] w fun e w' => ∃ g c, e = .returned (.slice (some ⟨g, 0, none⟩) 1 c) ∧ w'.cell? ⟨g, 0, none⟩ = some (.int .u8 0) ∧ Below w.heap.size w w' := by
  obtain ⟨i, hi, hz0, hz1, hz2⟩ := info_parts info_byte
  obtain ⟨a0, a1⟩ := ha
  have HM := Lib.hid h
  have m0 : 0 ≤ a % 4096 := by omega
  have m1 : a % 4096 ≤ 4095 := by omega
  go_enter Tryz.func93, Tryz.ntmps93
  go_wp2_with (at_make; refine wpList_make_full _ rfl _ _ 50 rfl w.heap.size 5 i (.int .u8 0) 1 Tryz.underlying50 hi hz0 hz1 _ _ _ _ 1 rfl rfl (by omega) (by omega) (by rw [hz2]; omega) (by simp only [maxLen]; omega) (by simp) ?_)
  intro w1 hown hgrow
  have HB1 : Hid (Below w.heap.size w w1) := (Below.refl _ _).grown hgrow (by simp) (by simp)
  have HC1 : Hid (w1.cell? ⟨w.heap.size, 0, none⟩ = some (.int .u8 0)) := by
    rcases hown.2 with ⟨hc, _⟩ | ⟨g', cap, cur, hv, _, hg, _, _, hs, ht⟩
    · cases hc
    · cases hv
      show _ = _
      rw [cell_of_row _ _ _ _ _ _ hg]
      have h0 : cur.toList[0]? = some (.int .u8 0) := by
        rw [List.take_of_length_le (by simp [hs])] at ht
        rw [ht]
        simp [madeCells]
      rw [← Array.getElem?_toList]
      exact h0
  have HF := Lib.hid (fun k => rfind_none (k := k) (HM.out.below HB1.out))
  clear hown hgrow h hi hz0 hz1 hz2
  go_wp2_with fail
  refine wp_loop_rounds 2 ?_
  rw [rounds_succ]
  by_cases hk : 1 < 4096 - a % 4096
  · have hkd : decide (1 < 4096 - a % 4096) = true := decide_eq_true hk
    go_wp2_with (go_at_call 57; refine (HF.out _).mono ?_; rintro e w' ⟨rfl, hw⟩; have hw := hw.symm; subst hw)
    refine wp_loop_rounds 1 ?_
    rw [rounds_succ]
    go_wp2_with fail
    rw [rounds_succ]
    go_wp2_with fail
    go_ret
    exact ⟨w.heap.size, 1, rfl, HC1.out, HB1.out⟩
  · have hkd : decide (1 < 4096 - a % 4096) = false := decide_eq_false hk
    have hke : 4096 - a % 4096 = 1 := by omega
    go_wp2_with (go_at_call 57; refine (HF.out _).mono ?_; rintro e w' ⟨rfl, hw⟩; have hw := hw.symm; subst hw)
    refine wp_loop_rounds 1 ?_
    rw [rounds_succ]
    go_wp2_with fail
    rw [rounds_succ]
    go_wp2_with fail
    go_ret
    exact ⟨w.heap.size, 1, rfl, HC1.out, HB1.out⟩
/-- what the document's own Load of a byte answers where nothing was laid -/
def RLoad (w : World) (m : Nat) (vr vd : Value) (LL : List Sp) (L S X a : Nat) (d : Bool → Nat) (e : Ending) (w' : World) : Prop :=
  ∃ x b, OffR LL a 1 x b ∧ e = .returned (.tuple #[.int .u64 0, FaultV (if b then 30 else 0) x]) ∧ RBox w' m vr vd (.slice none 0 0) (L + d b) S (up b X) ∧ Keeps (fun j => j = m) w w'
theorem on_le {LL : List Sp} {a : Nat} (hs : Sane LL) (h : On LL ((a : Int) + (0 : Nat))) : (a : Int) ≤ 4294967296 := by
  obtain ⟨r, hr, h1, h2⟩ := h
  have := hs r hr
  omega
set_option maxRecDepth 100000 in
set_option maxHeartbeats 4000000 in
theorem rpeek_one {w : World} {m : Nat} {vr vd : Value} {rs ds : List Sp} {L S X a : Nat} (h : RBox w m vr vd (.slice none 0 0) L S X) (hr : U64.SV w vr rs) (hd : U64.SV w vd ds) (hs : Sane (rs ++ ds)) (hl : rs.length + ds.length ≤ 64) (ha : a ≤ 18446744073709551615) (hX : X ≤ 4611686018427387904) :
    Calls Tryz.prog 76 #[.pointer (some ⟨m, 0, none⟩), .int .u64 (a : Int), .int .i64 1] w (RLoad w m vr vd (rs ++ ds) L S X a (fun _ => 0)) := by
  have HM : Hid (RBox w m vr vd (.slice none 0 0) L S X) := h
  have HA : Hid (∀ W, Below w.heap.size w W → Calls Tryz.prog 33 #[.pointer (some ⟨m, 0, none⟩), .int .u64 (a : Int), .int .i64 1] W (RAsk W m vr vd (.slice none 0 0) (rs ++ ds) L S X a 1)) := fun W hW => raccess_any (n := 1) (h.below hW) (hr.below hW (Nat.le_refl _)) (hd.below hW (Nat.le_refl _)) hs hl ha (by omega) hX
  have HS : Hid (Sane (rs ++ ds)) := hs
  generalize rs ++ ds = LL at *
  have hml := h.lt
  clear h hr hd hs hl
  go_enter Tryz.func76, Tryz.ntmps76
  go_wp2_with (go_at_call 32; refine (right_one _).mono ?_; rintro e w' ⟨rfl, hw⟩; have hw := hw.symm; subst hw)
  refine (HA.out _ ((Below.refl _ _).alloc (Nat.le_refl _) _)).mono ?_
  rintro e w1 ⟨x, b, ho, rfl, hm1, hk1⟩
  have HOff : Hid (OffR LL a 1 x b) := ho
  have HX1 : Hid (BoxG w1 w.heap.size 0 0) := (BoxG.new w 0 0).keeps hk1 (by omega)
  have HM1 : Hid (RBox w1 m vr vd (.slice none 0 0) L S (up b X)) := hm1
  have HK1 : Hid (Keeps (fun j => j = m) w w1) := (Keeps.alloc (S := fun j => j = m) w _).trans hk1 (fun _ _ e => e)
  obtain ⟨x0, x1, f0, f1⟩ := HX1.out.cells
  have hne : w.heap.size ≠ w1.heap.size := Nat.ne_of_lt HX1.out.lt
  have hlt1 := HX1.out.lt
  have hml1 := HM1.out.lt
  clear ho hm1 hk1 HA
  unfold FaultV
  cases b with
  | true =>
    simp only [if_true]
    go_wp2_with fail
    obtain ⟨W2, hW2⟩ : ∃ W2, w1.alloc (Obj.cells #[.int .i64 30, .int .u64 x] 41) = W2 := ⟨_, rfl⟩
    have HF2 : Hid (BoxG W2 w1.heap.size 30 x) := hW2 ▸ BoxG.new w1 30 x
    have HX2 : Hid (BoxG W2 w.heap.size 0 0) := hW2 ▸ HX1.out.below ((Below.refl _ _).alloc (Nat.le_refl _) _)
    have HB2 : Hid (Below w1.heap.size w1 W2) := hW2 ▸ (Below.refl _ _).alloc (Nat.le_refl _) _
    rw [hW2]
    obtain ⟨x0, x1, f0, f1⟩ := HX2.out.cells
    obtain ⟨y0, y1, _, _⟩ := HF2.out.cells
    clear hW2
    go_region_held3 (fun w' => w'.cell? ⟨w1.heap.size, 0, none⟩ = some (.int .i64 30) ∧ w'.cell? ⟨w1.heap.size, 1, none⟩ = some (.int .u64 x)) (go_keep) (fail)
    go_wp2_with fail
    obtain ⟨d0, d1, _⟩ := BoxG.cells (w := ((W2.setCell ⟨w.heap.size, 0, none⟩ (.int .i64 30)).setCell ⟨w.heap.size, 1, none⟩ (.int .u64 x)).drew) (HX2.out.set 30 x)
    refine bodyPost_ret (v := .tuple #[.int .u64 0, .agg #[.int .i64 30, .int .u64 x]]) (by simp [results, Tryz.results76, go_sem, d0, d1]) rfl ?_
    have hk2 : Keeps (fun j => j = w.heap.size) W2 (((W2.setCell ⟨w.heap.size, 0, none⟩ (.int .i64 30)).setCell ⟨w.heap.size, 1, none⟩ (.int .u64 x)).drew) := (Keeps.two W2 w.heap.size (.int .i64 30) (.int .u64 x)).drew
    exact ⟨x, true, HOff.out, rfl, (HM1.out.below HB2.out).keeps hk2 (by omega), (HK1.out.trans (Keeps.of_below (S := fun _ => False) HB2.out) (fun _ _ h => h.elim)).trans hk2 (fun i hi e => absurd e (by omega))⟩
  | false =>
    simp only [Bool.false_eq_true, if_false]
    obtain ⟨hx0, hon⟩ := HOff.out.2 rfl
    subst hx0
    have hle := on_le HS.out (hon 0 (by omega))
    clear hon
    go_wp2_with fail
    obtain ⟨W2, hW2⟩ : ∃ W2, w1.alloc (Obj.cells #[.int .i64 0, .int .u64 0] 41) = W2 := ⟨_, rfl⟩
    have HF2 : Hid (BoxG W2 w1.heap.size 0 0) := hW2 ▸ BoxG.new w1 0 0
    have HX2 : Hid (BoxG W2 w.heap.size 0 0) := hW2 ▸ HX1.out.below ((Below.refl _ _).alloc (Nat.le_refl _) _)
    have HB2 : Hid (Below w1.heap.size w1 W2) := hW2 ▸ (Below.refl _ _).alloc (Nat.le_refl _) _
    try rw [hW2]
    have HBy := Lib.hid (rbytes_one (HM1.out.below HB2.out) ⟨by omega, hle⟩)
    clear hW2
    refine HBy.out.mono ?_
    rintro e w3 ⟨g, c, rfl, z0, hb3⟩
    have HB3 : Hid (Below W2.heap.size W2 w3) := hb3
    have HF3 : Hid (BoxG w3 w1.heap.size 0 0) := HF2.out.below hb3
    have HX3 : Hid (BoxG w3 w.heap.size 0 0) := HX2.out.below hb3
    clear hb3 HBy
    go_wp2_with fail
    refine wp_loop_rounds 2 ?_
    rw [rounds_succ]
    go_wp2_with fail
    rw [rounds_succ]
    obtain ⟨x0, x1, f0, f1⟩ := HX3.out.cells
    obtain ⟨y0, y1, _, _⟩ := HF3.out.cells
    go_wp2_with fail
    go_region_held3 (fun w' => w'.cell? ⟨w1.heap.size, 0, none⟩ = some (.int .i64 0) ∧ w'.cell? ⟨w1.heap.size, 1, none⟩ = some (.int .u64 0)) (go_keep) (fail)
    go_wp2_with fail
    obtain ⟨d0, d1, _⟩ := BoxG.cells (w := ((w3.setCell ⟨w.heap.size, 0, none⟩ (.int .i64 0)).setCell ⟨w.heap.size, 1, none⟩ (.int .u64 0)).drew) (HX3.out.set 0 0)
    refine bodyPost_ret (v := .tuple #[.int .u64 0, .agg #[.int .i64 0, .int .u64 0]]) (by simp [results, Tryz.results76, go_sem, d0, d1]) rfl ?_
    have hk2 : Keeps (fun j => j = w.heap.size) w3 (((w3.setCell ⟨w.heap.size, 0, none⟩ (.int .i64 0)).setCell ⟨w.heap.size, 1, none⟩ (.int .u64 0)).drew) := (Keeps.two w3 w.heap.size (.int .i64 0) (.int .u64 0)).drew
    have hb13 : Below w1.heap.size w1 w3 := HB2.out.trans (HB3.out.mono HB2.out.size)
    exact ⟨0, false, HOff.out, rfl, (HM1.out.below hb13).keeps hk2 (by omega), (HK1.out.trans (Keeps.of_below (S := fun _ => False) hb13) (fun _ _ h => h.elim)).trans hk2 (fun i hi e => absurd e (by omega))⟩
set_option maxRecDepth 100000 in
set_option maxHeartbeats 4000000 in
theorem rload_one {w : World} {m : Nat} {vr vd : Value} {rs ds : List Sp} {L S X a : Nat} (h : RBox w m vr vd (.slice none 0 0) L S X) (hr : U64.SV w vr rs) (hd : U64.SV w vd ds) (hs : Sane (rs ++ ds)) (hl : rs.length + ds.length ≤ 64) (ha : a ≤ 18446744073709551615) (hX : X ≤ 4611686018427387904) (hL : L ≤ 4611686018427387904) :
    Calls Tryz.prog 48 #[.pointer (some ⟨m, 0, none⟩), .int .u64 (a : Int), .int .i64 1] w fun e w' => ∃ x b, OffR (rs ++ ds) a 1 x b ∧ e = .returned (.tuple #[.int .u64 0, FaultV (if b then 30 else 0) x]) ∧ Keeps (fun j => j = m) w w' := by
  have HM : Hid (RBox w m vr vd (.slice none 0 0) L S X) := h
  have HA : Hid (∀ W, Below w.heap.size w W → Calls Tryz.prog 76 #[.pointer (some ⟨m, 0, none⟩), .int .u64 (a : Int), .int .i64 1] W (RLoad W m vr vd (rs ++ ds) L S X a (fun _ => 0))) := fun W hW => rpeek_one (h.below hW) (hr.below hW (Nat.le_refl _)) (hd.below hW (Nat.le_refl _)) hs hl ha hX
  generalize rs ++ ds = LL at *
  have hml := h.lt
  clear h hr hd hs hl
  go_enter Tryz.func48, Tryz.ntmps48
  go_wp2_with fail
  refine (HA.out _ ((Below.refl _ _).alloc (Nat.le_refl _) _)).mono ?_
  rintro e w1 ⟨x, b, ho, rfl, hm1, hk1⟩
  have HOff : Hid (OffR LL a 1 x b) := ho
  have HX1 : Hid (BoxG w1 w.heap.size 0 0) := (BoxG.new w 0 0).keeps hk1 (by omega)
  have HM1 : Hid (RBox w1 m vr vd (.slice none 0 0) L S (up b X)) := hm1
  have HK1 : Hid (Keeps (fun j => j = m) w w1) := (Keeps.alloc (S := fun j => j = m) w _).trans hk1 (fun _ _ e => e)
  obtain ⟨x0, x1, f0, f1⟩ := HX1.out.cells
  have hml1 := HM1.out.lt
  have hne : w.heap.size ≠ w1.heap.size := Nat.ne_of_lt HX1.out.lt
  have hlt1 := HX1.out.lt
  have c3 := fun X => U64.cell_alloc' X HM1.out.cells.2.2.2.1
  have g3 := fun X : Obj => (HM1.out.below ((Below.refl _ _).alloc (Nat.le_refl _) X)).thawed 3
  clear ho hm1 hk1 HA
  unfold FaultV
  cases b with
  | true =>
    simp only [if_true]
    go_wp2_with fail
    obtain ⟨W2, hW2⟩ : ∃ W2, w1.alloc (Obj.cells #[.int .i64 30, .int .u64 x] 41) = W2 := ⟨_, rfl⟩
    have HF2 : Hid (BoxG W2 w1.heap.size 30 x) := hW2 ▸ BoxG.new w1 30 x
    have HX2 : Hid (BoxG W2 w.heap.size 0 0) := hW2 ▸ HX1.out.below ((Below.refl _ _).alloc (Nat.le_refl _) _)
    have HB2 : Hid (Below w1.heap.size w1 W2) := hW2 ▸ (Below.refl _ _).alloc (Nat.le_refl _) _
    rw [hW2]
    obtain ⟨x0, x1, f0, f1⟩ := HX2.out.cells
    obtain ⟨y0, y1, _, _⟩ := HF2.out.cells
    clear hW2 c3 g3
    go_region_held3 (fun w' => w'.cell? ⟨w1.heap.size, 0, none⟩ = some (.int .i64 30) ∧ w'.cell? ⟨w1.heap.size, 1, none⟩ = some (.int .u64 x)) (go_keep) (fail)
    go_wp2_with fail
    obtain ⟨d0, d1, _⟩ := BoxG.cells (w := ((W2.setCell ⟨w.heap.size, 0, none⟩ (.int .i64 30)).setCell ⟨w.heap.size, 1, none⟩ (.int .u64 x)).drew) (HX2.out.set 30 x)
    refine bodyPost_ret (v := .tuple #[.int .u64 0, .agg #[.int .i64 30, .int .u64 x]]) (by simp [results, Tryz.results48, go_sem, d0, d1]) rfl ?_
    have hk2 : Keeps (fun j => j = w.heap.size) W2 (((W2.setCell ⟨w.heap.size, 0, none⟩ (.int .i64 30)).setCell ⟨w.heap.size, 1, none⟩ (.int .u64 x)).drew) := (Keeps.two W2 w.heap.size (.int .i64 30) (.int .u64 x)).drew
    exact ⟨x, true, HOff.out, rfl, (HK1.out.trans (Keeps.of_below (S := fun _ => False) HB2.out) (fun _ _ h => h.elim)).trans hk2 (fun i hi e => absurd e (by omega))⟩
  | false =>
    simp only [Bool.false_eq_true, if_false]
    go_wp2_with fail
    obtain ⟨W2, hW2⟩ : ∃ W2, (w1.setCell ⟨m, 3, none⟩ (.int .i64 ((L : Int) + 1))).alloc (Obj.cells #[.int .i64 0, .int .u64 x] 41) = W2 := ⟨_, rfl⟩
    have HF2 : Hid (BoxG W2 w1.heap.size 0 x) := by rw [← hW2]; exact heap_alloc_newN (by simp [World.setCell]) _
    have HX2 : Hid (BoxG W2 w.heap.size 0 0) := by rw [← hW2]; exact (HX1.out.keeps (Keeps.setCell _ _ _ _) (by omega)).below ((Below.refl _ _).alloc (Nat.le_refl _) _)
    have HK2 : Hid (Keeps (fun j => j = m) w1 W2) := by rw [← hW2]; exact (Keeps.setCell _ _ _ _).trans (Keeps.alloc (S := fun j => j = m) _ _) (fun _ _ e => e)
    rw [hW2]
    obtain ⟨x0, x1, f0, f1⟩ := HX2.out.cells
    obtain ⟨y0, y1, _, _⟩ := HF2.out.cells
    clear hW2 c3 g3
    go_region_held3 (fun w' => w'.cell? ⟨w1.heap.size, 0, none⟩ = some (.int .i64 0) ∧ w'.cell? ⟨w1.heap.size, 1, none⟩ = some (.int .u64 x)) (go_keep) (fail)
    go_wp2_with fail
    obtain ⟨d0, d1, _⟩ := BoxG.cells (w := ((W2.setCell ⟨w.heap.size, 0, none⟩ (.int .i64 0)).setCell ⟨w.heap.size, 1, none⟩ (.int .u64 x)).drew) (HX2.out.set 0 x)
    refine bodyPost_ret (v := .tuple #[.int .u64 0, .agg #[.int .i64 0, .int .u64 x]]) (by simp [results, Tryz.results48, go_sem, d0, d1]) rfl ?_
    have hk2 : Keeps (fun j => j = w.heap.size) W2 (((W2.setCell ⟨w.heap.size, 0, none⟩ (.int .i64 0)).setCell ⟨w.heap.size, 1, none⟩ (.int .u64 x)).drew) := (Keeps.two W2 w.heap.size (.int .i64 0) (.int .u64 x)).drew
    exact ⟨x, false, HOff.out, rfl, (HK1.out.trans HK2.out (fun _ _ e => e)).trans hk2 (fun i hi e => absurd e (by omega))⟩
end Go.Proofs.YtdkhhofgfbnmkaaGreat
