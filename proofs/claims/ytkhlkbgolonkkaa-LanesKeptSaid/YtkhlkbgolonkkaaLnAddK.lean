/- Lanes: a slot row's add, and what it leaves alone. Own work. -/
import Derived.Test.YtkhlkbgolonkkaaLnUp
import Derived.Test.YtkhlkbgolonkkaaLnInT
namespace Go.Proofs.Ytkhlkbgolonkkaa
open Go.RowKit
set_option linter.unusedVariables false
set_option maxRecDepth 100000 in
set_option maxHeartbeats 4000000 in
theorem addK_grow {w : World} {k base : Nat} {v : Value} {ys : List S3} {l : S3} {n : Int} (h : Rw w k base v (ys ++ [l])) (hn : n ≠ 0) (hw : IntKind.i64.wrap (l.t + n) = l.t + n) :
    Calls Try.prog 35 #[.pointer (some ⟨k, 0, none⟩), .string l.s, .int .i64 n] w fun e w' => e = .returned (.tuple #[]) ∧ ∃ v', Rw w' k base v' (ys ++ [⟨l.s, l.f, l.t + n⟩]) ∧ Kq k v w w' ∧ Fr w v v' := by
  obtain ⟨g, cap, rfl, hg1, hg2, hc, hm⟩ := h.own.pos (by simp)
  have hlen : (ys ++ [l]).length = ys.length + 1 := by simp
  obtain ⟨m, hmm⟩ : ∃ m, m = (ys ++ [l]).length := ⟨_, rfl⟩
  rw [← hmm] at h hc
  obtain ⟨q, hq⟩ : ∃ q, q = ys.length := ⟨_, rfl⟩
  have x0 := h.cell
  have xf := h.thawed 0
  have gl : (ys ++ [l])[q]'(by omega) = l := by simp [hq]
  have c0 := h.own.cell q 0 (by omega) (by omega)
  have c1 := h.own.cell q 1 (by omega) (by omega)
  have c2 := h.own.cell q 2 (by omega) (by omega)
  rw [gl] at c0 c1 c2
  simp only [enc3, List.getElem?_cons_zero, List.getElem?_cons_succ, Nat.add_zero] at c0 c1 c2
  have gf := h.own.thawed (q * 3 + 2)
  have HE := Lib.hid (end_some (w := w.drew) (n := q) x0 (by omega) hc hm c2)
  have HW := Lib.hid h
  have hwm : IntKind.i64.wrap ((m : Int) - 1) = (q : Int) := by rw [IntKind.wrap_i64]; unfold maxLen at hm; omega
  have j1 : (q : Int) < (m : Int) := by omega
  have j0 : (0 : Int) ≤ (q : Int) := by omega
  have HQ : Hid (q = ys.length) := hq
  have hgk : g ≠ k := fun e => h.ne (by rw [← e]; rfl)
  clear h hmm hlen gl hq
  obtain ⟨ls, lf, lt⟩ := l
  simp only at hw c0 c1 c2 HE HW ⊢
  go_enter Try.func35, Try.ntmps35
  go_wp2_with fail
  go_region_held3 (fun w' => w'.cell? ⟨k, 0, none⟩ = some (.slice (some ⟨g, 0, none⟩) m cap)) (go_keep) (first | (go_at_call 36; refine HE.out.mono ?_; rintro e w5 ⟨rfl, hw5⟩; subst hw5))
  all_goals
    go_wp2_with fail
    refine bodyPost_ret (results_none rfl _ _ _) rfl ⟨rfl, _, ⟨?_, ?_, HW.out.ge, HW.out.ne⟩, ?_, Fr.refl _ _⟩
    · exact (Below.heap_setCell w ⟨g, q * 3 + 2, none⟩ (.int .i64 (lt + n)) k (fun e => hgk e.symm)).trans HW.out.blk
    · have h := HW.out.own.grow (u := lt + n)
      rw [← HQ.out] at h
      exact h
    · exact Keeps.drew (Keeps.drew ((Keeps.setCell w g _ _).mono fun _ _ e => .inr (by rw [e]; rfl)))
theorem Rw.appK {w W1 w2 : World} {k base : Nat} {v v2 : Value} {xs zs : List S3} (h : Rw w k base v xs) (hb : base ≤ w.heap.size) (kW : Keeps (fun _ => False) w W1) (ho : OwnS w2 base v2 zs) (hg : W1.grownBy w2 v.ownBlock) (hl : v2.ownBlock = v.ownBlock ∨ v2.ownBlock = some W1.heap.size) : Rw (w2.setCell ⟨k, 0, none⟩ v2) k base v2 zs ∧ (Kq k v w (w2.setCell ⟨k, 0, none⟩ v2) ∧ Fr w v v2) ∧ w2.cell? ⟨k, 0, none⟩ = some v ∧ w2.frozen? ⟨k, 0, none⟩ = false := by
  have hk1 : W1.heap[k]? = w.heap[k]? := kW.block k h.lt id
  have hkl : k < W1.heap.size := Nat.lt_of_lt_of_le h.lt kW.size
  have hk2 : w2.heap[k]? = some (.cells #[v] 70 (0, 0)) := (hg.block k hkl (fun e => h.ne e.symm)).trans (hk1.trans h.blk)
  have hne : v2.ownBlock ≠ some k := by
    rcases hl with e | e
    · rw [e]; exact h.ne
    · rw [e]; intro e2; cases e2; omega
  refine ⟨⟨?_, ho.keeps (Keeps.setCell w2 k 0 v2) (fun j hj e => hne (by subst e; exact hj)), h.ge, hne⟩, ?_, by rw [cell_of_row _ _ _ _ _ _ hk2]; rfl, by simp [World.frozen?, hk2]⟩
  · simp [World.setCell, Array.getElem?_modify, hk2]
  · refine ⟨((kW.mono (S' := fun b => b = k ∨ v.ownBlock = some b) fun _ _ e => e.elim).trans (Keeps.of_grown hg) fun _ _ e => .inr e).trans (Keeps.setCell w2 k 0 v2) fun _ _ e => .inl e, ?_⟩
    rcases hl with e | e
    · exact .inl e
    · exact .inr ⟨_, e, kW.size⟩
set_option maxRecDepth 100000 in
set_option maxHeartbeats 4000000 in
theorem addK_first {w : World} {k base : Nat} {s : ByteArray} {n : Int} (h : Rw w k base (.slice none 0 0) []) (hb : base ≤ w.heap.size) (hn0 : 0 < n) (hn1 : n ≤ 65536) :
    Calls Try.prog 35 #[.pointer (some ⟨k, 0, none⟩), .string s, .int .i64 n] w fun e w' => e = .returned (.tuple #[]) ∧ ∃ v', Rw w' k base v' [⟨s, 0, n⟩] ∧ Kq k (.slice none 0 0) w w' ∧ Fr w (.slice none 0 0) v' := by
  have x0 := h.cell
  have HE := Lib.hid (end_nil (w := w.drew) x0)
  have HW := Lib.hid h
  have HA : Hid (∀ W, OwnS W base (.slice none 0 0) []) := fun W => OwnS.nil _ _
  have hn : n ≠ 0 := by omega
  have HB : Hid (B3 (w.alloc (.cells #[.string s, .int .i64 0, .int .i64 n] 37)).drew w.heap.size ⟨s, 0, n⟩) := Array.getElem?_push_size (xs := w.heap)
  clear h
  go_enter Try.func35, Try.ntmps35
  go_wp2_with fail
  go_region_held3 (fun w' => w'.cell? ⟨k, 0, none⟩ = some (.slice none 0 0)) (go_keep) (first | (go_at_call 36; refine HE.out.mono ?_; rintro e w5 ⟨rfl, hw5⟩; subst hw5))
  all_goals
    go_wp2_with (at_builtin; refine wpList_append3 rfl (.tmp 44) (.tmp 51) rfl (HA.out _) rfl rfl HB.out (by simp) (by simp; omega) ?_; intro va vc w2 HO2 HG2 HL2; obtain ⟨hr2, hb2, hc2, hf2⟩ := HW.out.appK hb (Keeps.alloc (S := fun _ => False) w _).drew HO2.out HG2.out HL2.out; have HR2 := Lib.hid hr2; have HB2 := Lib.hid hb2; clear hr2 hb2)
    go_end0
    exact ⟨rfl, _, HR2.out, HB2.out.1, HB2.out.2⟩
set_option maxRecDepth 100000 in
set_option maxHeartbeats 4000000 in
theorem addK_next {w : World} {k base : Nat} {v : Value} {ys : List S3} {l : S3} {s : ByteArray} {n : Int} (h : Rw w k base v (ys ++ [l])) (hb : base ≤ w.heap.size) (hn0 : 0 < n) (hn1 : n ≤ 65536) (hl0 : 0 ≤ l.t) (hl1 : l.t ≤ 65536) (hs : (l.s.toList == s.toList) = false) (hlen : ys.length ≤ 100000) :
    Calls Try.prog 35 #[.pointer (some ⟨k, 0, none⟩), .string s, .int .i64 n] w fun e w' => e = .returned (.tuple #[]) ∧ ∃ v', Rw w' k base v' (ys ++ [l] ++ [⟨s, l.t, l.t + n⟩]) ∧ Kq k v w w' ∧ Fr w v v' := by
  obtain ⟨g, cap, rfl, hg1, hg2, hc, hm⟩ := h.own.pos (by simp)
  have hlen2 : (ys ++ [l]).length = ys.length + 1 := by simp
  obtain ⟨m, hmm⟩ : ∃ m, m = (ys ++ [l]).length := ⟨_, rfl⟩
  rw [← hmm] at h hc
  obtain ⟨q, hq⟩ : ∃ q, q = ys.length := ⟨_, rfl⟩
  have x0 := h.cell
  have gl : (ys ++ [l])[q]'(by omega) = l := by simp [hq]
  have c0 := h.own.cell q 0 (by omega) (by omega)
  have c2 := h.own.cell q 2 (by omega) (by omega)
  rw [gl] at c0 c2
  simp only [enc3, List.getElem?_cons_zero, List.getElem?_cons_succ, Nat.add_zero] at c0 c2
  have HE := Lib.hid (end_some (w := w.drew) (n := q) x0 (by omega) hc hm c2)
  have HW := Lib.hid h
  have hwm : IntKind.i64.wrap ((m : Int) - 1) = (q : Int) := by rw [IntKind.wrap_i64]; unfold maxLen at hm; omega
  have j1 : (q : Int) < (m : Int) := by omega
  have j0 : (0 : Int) ≤ (q : Int) := by omega
  have hL : Hid ((ys ++ [l]).length ≤ 1048576) := (by omega : (ys ++ [l]).length ≤ 1048576)
  obtain ⟨ls, lf, lt⟩ := l
  simp only at hl0 hl1 hs c0 c2 HE HW ⊢
  have HA : Hid (∀ X, OwnS (w.alloc X).drew.drew base (.slice (some ⟨g, 0, none⟩) m cap) (ys ++ [⟨ls, lf, lt⟩])) := fun X => HW.out.own.below (((Below.refl _ _).alloc (Nat.le_refl _) _).drew.drew)
  have HB : Hid (B3 (w.alloc (.cells #[.string s, .int .i64 lt, .int .i64 (lt + n)] 37)).drew.drew w.heap.size ⟨s, lt, lt + n⟩) := Array.getElem?_push_size (xs := w.heap)
  have hn : n ≠ 0 := by omega
  have HML : Hid ((ys ++ [(⟨ls, lf, lt⟩ : S3)]).length = m) := hmm.symm
  clear h hmm hlen2 gl hq hlen
  generalize ys ++ [(⟨ls, lf, lt⟩ : S3)] = xs at *
  go_enter Try.func35, Try.ntmps35
  go_wp2_with fail
  go_region_held3 (fun w' => w'.cell? ⟨k, 0, none⟩ = some (.slice (some ⟨g, 0, none⟩) m cap)) (go_keep) (first | (go_at_call 36; refine HE.out.mono ?_; rintro e w5 ⟨rfl, hw5⟩; subst hw5))
  all_goals
    go_wp2_with (at_builtin; refine wpList_append3 rfl (.tmp 44) (.tmp 51) rfl (HA.out _) rfl rfl HB.out hL.out (by simp; omega) ?_; intro va vc w2 HO2 HG2 HL2; obtain ⟨hr2, hb2, hc2, hf2⟩ := HW.out.appK hb (Keeps.alloc (S := fun _ => False) w _).drew.drew HO2.out HG2.out HL2.out; have HR2 := Lib.hid hr2; have HB2 := Lib.hid hb2; clear hr2 hb2)
    go_end0
    exact ⟨rfl, _, HR2.out, HB2.out.1, HB2.out.2⟩
theorem addK_any {w : World} {k base : Nat} {v : Value} {xs : List S3} {s : ByteArray} {n : Int} (h : Rw w k base v xs) (hb : base ≤ w.heap.size) (h0 : 0 ≤ n) (h1 : n ≤ 65536) (he0 : 0 ≤ endF xs) (he1 : endF xs ≤ 65536) (hlen : xs.length ≤ 100000) (hnil : xs = [] → v = .slice none 0 0) :
    Calls Try.prog 35 #[.pointer (some ⟨k, 0, none⟩), .string s, .int .i64 n] w fun e w' => e = .returned (.tuple #[]) ∧ ∃ v', Rw w' k base v' (adds xs s n) ∧ (Kq k v w w' ∧ Fr w v v') ∧ (adds xs s n = [] → v' = .slice none 0 0) := by
  by_cases hn : n = 0
  · subst hn
    refine (add_zero k s w).mono ?_
    rintro e w' ⟨rfl, hw⟩
    subst hw
    have ea : adds xs s 0 = xs := by simp [adds]
    rw [ea]
    exact ⟨rfl, v, h, ⟨Kq.refl _ _ _, Fr.refl _ _⟩, hnil⟩
  · have hp : 0 < n := by omega
    rcases List.eq_nil_or_concat xs with rfl | ⟨ys, l, rfl⟩
    · obtain rfl := hnil rfl
      refine (addK_first (s := s) h hb hp h1).mono ?_
      rintro e w' ⟨rfl, v', hr, hbl⟩
      have ea : adds [] s n = [⟨s, 0, n⟩] := by simp [adds, hn]
      rw [ea]
      exact ⟨rfl, v', hr, hbl, fun e => by cases e⟩
    · rw [List.concat_eq_append] at *
      have el : (ys ++ [l]).getLast? = some l := by simp
      have ee : endF (ys ++ [l]) = l.t := by simp [endF]
      rw [ee] at he0 he1
      have hlen2 : ys.length ≤ 100000 := by simp at hlen; omega
      by_cases hs : (l.s.toList == s.toList) = true
      · have es : l.s = s := by
          have := eq_of_beq hs
          exact toList_inj this
        subst es
        have ea : adds (ys ++ [l]) l.s n = ys ++ [⟨l.s, l.f, l.t + n⟩] := by simp [adds, hn]
        rw [ea]
        refine (addK_grow h hn (by rw [IntKind.wrap_i64]; omega)).mono ?_
        rintro e w' ⟨rfl, v', hr, hbl⟩
        exact ⟨rfl, v', hr, hbl, fun e => by simp at e⟩
      · have hs' : (l.s.toList == s.toList) = false := by simpa using hs
        have ea : adds (ys ++ [l]) s n = (ys ++ [l]) ++ [⟨s, l.t, l.t + n⟩] := by simp [adds, hn, hs']
        rw [ea]
        refine (addK_next (s := s) (n := n) h hb hp h1 he0 he1 hs' hlen2).mono ?_
        rintro e w' ⟨rfl, v', hr, hbl⟩
        exact ⟨rfl, v', by simpa using hr, hbl, fun e => by simp at e⟩
end Go.Proofs.Ytkhlkbgolonkkaa
