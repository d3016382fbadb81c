import Derived.Test.YtfnikcjcgneboaaGreatPk29
/- The document's own machine with pages, and what lies in them. Own work. -/
namespace Go.Proofs.YtfnikcjcgneboaaGreat
open Go.RowKit Go.Maps Go.Proofs.YtfnikcjcgneboaaGreat.Sp Wk
/-- a row of n bytes and what they are -/
def P8 (w : World) (g n : Nat) (f : Nat → Nat) : Prop := ∃ cur : Array Value, w.heap[g]? = some (.cells cur 5 (0, 0)) ∧ ∀ i, i < n → cur[i]? = some (.int .u8 (f i : Int))
theorem P8.u8 {w : World} {g n : Nat} {f : Nat → Nat} (h : P8 w g n f) (hf : ∀ i, i < n → f i < 256) : U8 w g n := by
  obtain ⟨cur, h0, h1⟩ := h
  exact ⟨cur, h0, fun i hi => ⟨f i, hf i hi, h1 i hi⟩⟩
theorem P8.lt {w : World} {g n : Nat} {f : Nat → Nat} (h : P8 w g n f) : g < w.heap.size := by obtain ⟨_, h, _⟩ := h; exact (Array.getElem?_eq_some_iff.1 h).1
theorem P8.cell {w : World} {g n : Nat} {f : Nat → Nat} (h : P8 w g n f) (i : Nat) (hi : i < n) : w.cell? ⟨g, i, none⟩ = some (.int .u8 (f i : Int)) := by
  obtain ⟨cur, h0, h1⟩ := h
  rw [cell_of_row _ _ _ _ _ _ h0]
  exact h1 i hi
theorem P8.thawed {w : World} {g n : Nat} {f : Nat → Nat} (h : P8 w g n f) (i : Nat) : w.frozen? ⟨g, i, none⟩ = false := by
  obtain ⟨cur, h0, h1⟩ := h
  simp [World.frozen?, h0]
theorem P8.keeps {Z : Nat → Prop} {w w' : World} {g n : Nat} {f : Nat → Nat} (h : P8 w g n f) (hk : Keeps Z w w') (hn : ¬ Z g) : P8 w' g n f := by
  obtain ⟨cur, h0, h1⟩ := id h
  exact ⟨cur, (hk.block g h.lt hn).trans h0, h1⟩
theorem P8.congr {w : World} {g n : Nat} {f f' : Nat → Nat} (h : P8 w g n f) (he : ∀ i, i < n → f' i = f i) : P8 w g n f' := by
  obtain ⟨cur, h0, h1⟩ := h
  exact ⟨cur, h0, fun i hi => by rw [he i hi]; exact h1 i hi⟩
theorem P8.set {w : World} {g n : Nat} {f : Nat → Nat} (h : P8 w g n f) (o z : Nat) : P8 (w.setCell ⟨g, o, none⟩ (.int .u8 (z : Int))) g n (fun i => if i = o then z else f i) := by
  obtain ⟨cur, h0, h1⟩ := h
  refine ⟨cur.setIfInBounds o (.int .u8 (z : Int)), by simp [World.setCell, Array.getElem?_modify, h0], fun i hi => ?_⟩
  have h3 := h1 i hi
  have hb := (Array.getElem?_eq_some_iff.1 h3).1
  rw [Array.getElem?_setIfInBounds]
  by_cases e : i = o
  · subst e
    simp [hb]
  · rw [if_neg (fun h => e h.symm), h3]
    show _ = some (Value.int .u8 ((if i = o then z else f i : Nat) : Int))
    rw [if_neg e]
/-- a machine of the document's own and its memory -/
def RM (w : World) (base v : Nat) (vr vd vp : Value) (ps : List (Int × Nat)) (M : Nat → Nat) (L S X : Nat) : Prop :=
  base ≤ v ∧ RBox w v vr vd vp L S X ∧ OwnP w base vp ps ∧ (∀ x ∈ ps, base ≤ x.2 ∧ P8 w x.2 4096 (fun i => M (x.1.toNat * 4096 + i))) ∧ Pn ps ∧ (ps.map Prod.snd).Nodup ∧ (∀ p, M p < 256) ∧ ∀ p, (∀ x ∈ ps, x.1 ≠ ((p / 4096 : Nat) : Int)) → M p = 0
theorem RM.rs {w : World} {base v : Nat} {vr vd vp : Value} {ps : List (Int × Nat)} {M : Nat → Nat} {L S X : Nat} (h : RM w base v vr vd vp ps M L S X) : RS w base v vr vd vp ps L S X :=
  ⟨h.1, h.2.1, h.2.2.1, fun x hx => ⟨(h.2.2.2.1 x hx).1, (h.2.2.2.1 x hx).2.u8 (fun _ _ => h.2.2.2.2.2.2.1 _)⟩⟩
theorem RM.pn {w : World} {base v : Nat} {vr vd vp : Value} {ps : List (Int × Nat)} {M : Nat → Nat} {L S X : Nat} (h : RM w base v vr vd vp ps M L S X) : Pn ps := h.2.2.2.2.1
theorem RM.keeps {Z : Nat → Prop} {w w' : World} {base v : Nat} {vr vd vp : Value} {ps : List (Int × Nat)} {M : Nat → Nat} {L S X : Nat} (h : RM w base v vr vd vp ps M L S X) (hk : Keeps Z w w') (hn : ∀ j, VB base w j → ¬ Z j) : RM w' base v vr vd vp ps M L S X := by
  obtain ⟨k0, k1, k2, k3⟩ := h.rs.keeps hk hn
  refine ⟨k0, k1, k2, fun x hx => ?_, h.2.2.2.2⟩
  obtain ⟨h1, h2⟩ := h.2.2.2.1 x hx
  refine ⟨h1, h2.keeps hk (hn _ ?_)⟩
  obtain ⟨cur, hc, _⟩ := h2
  exact ⟨h1, cur, _, _, hc, .inr (.inr rfl)⟩
theorem RM.below {w w' : World} {base v : Nat} {vr vd vp : Value} {ps : List (Int × Nat)} {M : Nat → Nat} {L S X : Nat} (h : RM w base v vr vd vp ps M L S X) (hb : Below w.heap.size w w') : RM w' base v vr vd vp ps M L S X := h.keeps (Keeps.of_below (S := fun _ => False) hb) (fun _ _ h => h)
theorem nodup_fst {ps : List (Int × Nat)} (h : (ps.map Prod.fst).Nodup) {x y : Int × Nat} (hx : x ∈ ps) (hy : y ∈ ps) (e : x.1 = y.1) : x = y := by
  induction ps with
  | nil => simp at hx
  | cons z l ih =>
    rw [List.map_cons, List.nodup_cons] at h
    rcases List.mem_cons.1 hx with rfl | hx'
    · rcases List.mem_cons.1 hy with rfl | hy
      · rfl
      · exact absurd (e ▸ List.mem_map_of_mem hy) h.1
    · rcases List.mem_cons.1 hy with rfl | hy
      · exact absurd (e ▸ List.mem_map_of_mem hx') h.1
      · exact ih h.2 hx' hy
theorem nodup_snd {ps : List (Int × Nat)} (h : (ps.map Prod.snd).Nodup) {x y : Int × Nat} (hx : x ∈ ps) (hy : y ∈ ps) (e : x.2 = y.2) : x = y := by
  induction ps with
  | nil => simp at hx
  | cons z l ih =>
    rw [List.map_cons, List.nodup_cons] at h
    rcases List.mem_cons.1 hx with rfl | hx'
    · rcases List.mem_cons.1 hy with rfl | hy
      · rfl
      · exact absurd (e ▸ List.mem_map_of_mem hy) h.1
    · rcases List.mem_cons.1 hy with rfl | hy
      · exact absurd (e ▸ List.mem_map_of_mem hx') h.1
      · exact ih h.2 hx' hy
theorem put_one (M : Nat → Nat) (a z p : Nat) : putAt M a [z] p = if p = a then z else M p := by
  by_cases e : p = a
  · subst e
    have := putAt_in M p [z] 0 (by simp)
    simpa using this
  · rw [if_neg e]
    exact putAt_out M a [z] p (by simp; omega)
/-- a byte of a page is written -/
theorem RM.write {w : World} {base v : Nat} {vr vd vp : Value} {ps : List (Int × Nat)} {M : Nat → Nat} {L S X : Nat} (h : RM w base v vr vd vp ps M L S X) {x : Int × Nat} (hx : x ∈ ps) {t z : Nat} (ht : t < 4096) (hz : z < 256) : RM (w.setCell ⟨x.2, t, none⟩ (.int .u8 (z : Int))) base v vr vd vp ps (putAt M (x.1.toNat * 4096 + t) [z]) L S X := by
  obtain ⟨k0, k1, k2, k3⟩ := h.rs.write (h.rs.2.2.2 x hx).2 t z hz
  refine ⟨k0, k1, k2, fun y hy => ⟨(k3 y hy).1, ?_⟩, h.pn, h.2.2.2.2.2.1, fun p => ?_, fun p hp => ?_⟩
  · by_cases e : y.2 = x.2
    · obtain rfl := nodup_snd h.2.2.2.2.2.1 hy hx e
      refine ((h.2.2.2.1 y hx).2.set t z).congr fun i hi => ?_
      rw [put_one]
      by_cases ei : i = t
      · rw [if_pos ei, if_pos (by omega)]
      · rw [if_neg ei, if_neg (by omega)]
    · refine ((h.2.2.2.1 y hy).2.keeps (Keeps.setCell w x.2 t _) e).congr fun i hi => ?_
      rw [put_one, if_neg]
      intro hh
      have h1 := h.pn.2 x hx
      have h2 := h.pn.2 y hy
      exact e (congrArg Prod.snd (nodup_fst h.pn.1 hy hx (by omega)))
  · rw [put_one]
    split
    · exact hz
    · exact h.2.2.2.2.2.2.1 p
  · rw [put_one, if_neg]
    · exact h.2.2.2.2.2.2.2 p hp
    · intro hh
      have h1 := h.pn.2 x hx
      exact hp x hx (by omega)
/-- a page of zeros is added -/
theorem RM.app {w w2 : World} {base v : Nat} {vr vd vp v2 : Value} {ps : List (Int × Nat)} {M : Nat → Nat} {L S X : Nat} (h : RM w base v vr vd vp ps M L S X) (hb : base ≤ w.heap.size) (pg : Nat) (hpg : pg ≤ 2097152) (hnew : ∀ x ∈ ps, x.1 ≠ (pg : Int)) (ho : OwnP w2 base v2 (ps ++ [((pg : Int), w.heap.size)])) (hg : (W2 w (pg : Int)).grownBy w2 vp.ownBlock) :
    RM (w2.setCell ⟨v, 2, none⟩ v2) base v vr vd v2 (ps ++ [((pg : Int), w.heap.size)]) M L S X ∧ Kv base w (w2.setCell ⟨v, 2, none⟩ v2) ∧ (∀ g n f, P8 w g n f → P8 (w2.setCell ⟨v, 2, none⟩ v2) g n f) ∧ w2.cell? ⟨v, 2, none⟩ = some vp ∧ w2.frozen? ⟨v, 2, none⟩ = false ∧ base ≤ (w2.setCell ⟨v, 2, none⟩ v2).heap.size := by
  obtain ⟨⟨r0, r1, r2, r3⟩, kv, _, c2, f2, s2⟩ := h.rs.app hb (pg : Int) ho hg
  have hvb : ∀ k, vp.ownBlock = some k → base ≤ k ∧ ∃ cur, w.heap[k]? = some (.cells cur 52 (0, 0)) := by
    obtain ⟨_, _, _, _, _, hf⟩ := h.2.2.1.form
    exact hf
  have b1 := h.2.1
  have kk : Keeps (fun j => vp.ownBlock = some j ∨ j = v) w (w2.setCell ⟨v, 2, none⟩ v2) := (((W2.keeps w (pg : Int)).mono (S' := fun j => vp.ownBlock = some j ∨ j = v) fun _ _ e => e.elim).trans ((Keeps.of_grown hg).mono (S' := fun j => vp.ownBlock = some j ∨ j = v) fun _ _ e => .inl e) fun _ _ e => e).trans (Keeps.setCell w2 v 2 v2) fun _ _ e => .inr e
  have u0 : ∀ g n f, P8 w g n f → P8 (w2.setCell ⟨v, 2, none⟩ v2) g n f := fun g n f hu => hu.keeps kk (fun e => by
    obtain ⟨cur', hc', _⟩ := hu
    rcases e with e | e
    · obtain ⟨_, cur, hc⟩ := hvb g e
      rw [hc] at hc'
      cases hc'
    · rw [e, show w.heap[v]? = _ from b1] at hc'
      cases hc')
  refine ⟨⟨r0, r1, r2, fun x hx => ⟨(r3 x hx).1, ?_⟩, h.pn.add _ hnew ⟨by omega, by omega⟩, ?_, h.2.2.2.2.2.2.1, fun p hp => h.2.2.2.2.2.2.2 p fun x hx => hp x (List.mem_append.2 (.inl hx))⟩, kv, u0, c2, f2, s2⟩
  · rcases List.mem_append.1 hx with hx | hx
    · exact u0 _ _ _ (h.2.2.2.1 x hx).2
    · obtain rfl := List.mem_singleton.1 hx
      have hz : P8 (W2 w (pg : Int)) w.heap.size 4096 (fun i => M ((pg : Int).toNat * 4096 + i)) := by
        refine ⟨zc, ?_, fun i hi => ?_⟩
        · show ((w.heap.push _).push _)[w.heap.size]? = _
          rw [Array.getElem?_push, if_neg (by simp), Array.getElem?_push_size]
        · show _ = some (Value.int .u8 ((M ((pg : Int).toNat * 4096 + i) : Nat) : Int))
          rw [zc_get i hi, h.2.2.2.2.2.2.2 _ fun x hx => ?_]
          have := hnew x hx
          intro e
          exact this (e.trans (by omega))
      refine (hz.keeps (Keeps.of_grown hg) (fun e => ?_)).keeps (Keeps.setCell w2 v 2 v2) (fun e => ?_)
      · obtain ⟨_, cur, hc⟩ := hvb _ e
        have := (Array.getElem?_eq_some_iff.1 hc).1
        omega
      · have e : w.heap.size = v := e
        have := b1.lt
        omega
  · rw [List.map_append, List.nodup_append]
    refine ⟨h.2.2.2.2.2.1, by simp, fun a ha b hb e => ?_⟩
    obtain ⟨x, hx, rfl⟩ := List.mem_map.1 ha
    simp only [List.map_cons, List.map_nil, List.mem_singleton] at hb
    have := (h.2.2.2.1 x hx).2.lt
    omega
set_option maxHeartbeats 2000000 in
theorem rfind_at {w : World} {base v : Nat} {vr vd vp : Value} {ps : List (Int × Nat)} {L S X : Nat} {k : Int} (h : RS w base v vr vd vp ps L S X) (hl : ps.length ≤ 1099511627776) : Calls Tryz.prog 65 #[.pointer (some ⟨v, 0, none⟩), .int .u64 k] w fun e w' => ∃ j : Int, e = .returned (.int .i64 j) ∧ Hid ((j = -1 ∧ ∀ x ∈ ps, x.1 ≠ k) ∨ ∃ i : Nat, j = (i : Int) ∧ ∃ hi : i < ps.length, (ps[i]'hi).1 = k) ∧ w = w' := by
  obtain ⟨h0, h1, h2, h3⟩ := h
  obtain ⟨_, _, c2, _, _, _⟩ := h1.cells
  obtain ⟨a, c, rfl, hc1, hc2, _⟩ := h2.form
  have HC := Lib.hid (fun j hj => h2.cell j hj)
  unfold maxLen at hc2
  obtain ⟨N, hN⟩ : ∃ N, N = ps.length := ⟨_, rfl⟩
  rw [← hN] at c2 hc1 hl
  have HN : Hid (N = ps.length) := hN
  clear h0 h1 h2 h3 hN
  go_enter Tryz.func65, Tryz.ntmps65
  go_wp2_with fail
  go_loop [5] (fun iv => ∃ q : Nat, q ≤ N ∧ iv = .int .i64 (q : Int) ∧ Hid (∀ x ∈ ps.take q, x.1 ≠ k)) (fun iv => N - (intOf iv).toNat)
  case atStart => exact ⟨0, Nat.zero_le _, rfl, by simp [Hid]⟩
  case round =>
    obtain ⟨q, hq, rfl, HQ⟩ := hrel
    by_cases hlt : q < N
    · obtain ⟨g, rfl, d0, d1⟩ := HC.out q (by rw [← HN.out]; exact hlt)
      have HT : Hid (ps[q].1 ≠ k → ∀ x ∈ ps.take (q + 1), x.1 ≠ k) := fun hne x hx => by
        rw [List.take_add_one, List.getElem?_eq_getElem (by rw [← HN.out]; exact hlt)] at hx
        rcases List.mem_append.1 hx with hx | hx
        · exact HQ.out x hx
        · rw [List.mem_singleton.1 hx]; exact hne
      obtain ⟨x, hx⟩ : ∃ x, x = (ps[q]'(by rw [← HN.out]; exact hlt)).1 := ⟨_, rfl⟩
      have HX : Hid (x = (ps[q]'(by rw [← HN.out]; exact hlt)).1) := hx
      rw [← hx] at d0
      clear hx
      have qi : (q : Int) < (N : Int) := by omega
      by_cases e : x = k
      · subst e
        go_wp2_with fail
        go_ret
        exact ⟨q, rfl, .inr ⟨q, rfl, by rw [← HN.out]; exact hlt, HX.out.symm⟩, rfl⟩
      · have he : (x == k) = false := by simpa using e
        go_wp2_with fail
        go_round
        case rel => exact ⟨q + 1, by omega, by go_num, HT.out (HX.out ▸ e)⟩
        case measure => simp [intOf]; omega
    · go_wp2_with fail
      go_ret
      exact ⟨-1, rfl, .inl ⟨rfl, by have h := HQ.out; rw [show q = ps.length by rw [← HN.out]; omega, List.take_length] at h; first | exact h | exact fun a b hab => h (a, b) hab⟩, rfl⟩
end Go.Proofs.YtfnikcjcgneboaaGreat
