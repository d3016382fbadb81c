/- Lanes: the law's great, Within; rows of strings and of numbers. Own work. -/
import Derived.Test.YtmgekglndjigiaaLnRun
namespace Go.Proofs.Ytmgekglndjigiaa
open Go.RowKit
set_option linter.unusedVariables false
set_option maxRecDepth 100000 in
set_option maxHeartbeats 2000000 in
theorem great_any {w : World} {v : Value} {xs : List R4} {m : Nat} {q cp : Int} {nd : Bool} (h : Rn w v xs) : Calls Try.prog 10 #[.int .u64 (m : Int), .agg #[.int .i64 q, .int .u64 cp, .bool nd, v]] w fun e w' => (e = .returned (.bool true) ∨ e = .returned (.bool false)) ∧ Below w.heap.size w w' := by
  obtain ⟨ao, cap, rfl, h1, h2, h3, h4⟩ := h
  clear h3 h4
  unfold maxLen at h2
  generalize xs.length = n at *
  by_cases g1 : 5000 < n
  · have j1 : (5000 : Int) < (n : Int) := by omega
    go_enter Try.func10, Try.ntmps10
    go_wp2_with fail
    go_ret
    first
    | exact ⟨.inl rfl, (Below.refl _ _).alloc (Nat.le_refl _) _⟩
    | exact ⟨.inr rfl, (Below.refl _ _).alloc (Nat.le_refl _) _⟩
  · have j1 : ¬ (5000 : Int) < (n : Int) := by omega
    cases nd with
    | false =>
      go_enter Try.func10, Try.ntmps10
      go_wp2_with fail
      go_ret
      first
      | exact ⟨.inl rfl, (Below.refl _ _).alloc (Nat.le_refl _) _⟩
      | exact ⟨.inr rfl, (Below.refl _ _).alloc (Nat.le_refl _) _⟩
    | true =>
      by_cases g2 : m ≤ 65536
      · have j2 : (m : Int) ≤ 65536 := by omega
        have hwm : IntKind.i64.wrap (m : Int) = (m : Int) := by rw [IntKind.wrap_i64]; omega
        have hml : n * m ≤ 5000 * 65536 := Nat.mul_le_mul (by omega) g2
        obtain ⟨P, hP⟩ : ∃ P, n * m = P := ⟨_, rfl⟩
        rw [hP] at hml
        have hw3 : IntKind.i64.wrap ((n : Int) * (m : Int)) = (P : Int) := by
          rw [show (n : Int) * (m : Int) = ((n * m : Nat) : Int) by simp, hP, IntKind.wrap_i64]; omega
        clear hP hml
        by_cases g3 : 60000000 < P
        · have j3 : (60000000 : Int) < (P : Int) := by omega
          go_enter Try.func10, Try.ntmps10
          go_wp2_with fail
          go_ret
          first
          | exact ⟨.inl rfl, (Below.refl _ _).alloc (Nat.le_refl _) _⟩
          | exact ⟨.inr rfl, (Below.refl _ _).alloc (Nat.le_refl _) _⟩
        · have j3 : ¬ (60000000 : Int) < (P : Int) := by omega
          go_enter Try.func10, Try.ntmps10
          go_wp2_with fail
          go_ret
          first
          | exact ⟨.inl rfl, (Below.refl _ _).alloc (Nat.le_refl _) _⟩
          | exact ⟨.inr rfl, (Below.refl _ _).alloc (Nat.le_refl _) _⟩
      · have j2 : ¬ (m : Int) ≤ 65536 := by omega
        go_enter Try.func10, Try.ntmps10
        go_wp2_with fail
        go_ret
        first
        | exact ⟨.inl rfl, (Below.refl _ _).alloc (Nat.le_refl _) _⟩
        | exact ⟨.inr rfl, (Below.refl _ _).alloc (Nat.le_refl _) _⟩
set_option maxRecDepth 100000 in
set_option maxHeartbeats 2000000 in
theorem within_any (a : Int) (w : World) : Calls Try.prog 13 #[.int .i64 a, .int .i64 0, .int .i64 200000] w fun e w' => ∃ f : Nat, f ≤ 200000 ∧ e = .returned (.int .i64 (f : Int)) ∧ w' = w := by
  obtain ⟨r, hr⟩ : ∃ r, a.tmod 200001 = r := ⟨_, rfl⟩
  have h1 : -200001 < r ∧ r < 200001 := by
    rw [← hr]
    rcases Int.eq_nat_or_neg a with ⟨n, rfl | rfl⟩
    · have : (n : Int).tmod 200001 = ((n % 200001 : Nat) : Int) := rfl
      rw [this]
      omega
    · have : (n : Int).tmod 200001 = ((n % 200001 : Nat) : Int) := rfl
      rw [Int.neg_tmod, this]
      omega
  have hw : IntKind.i64.wrap r = r := by rw [IntKind.wrap_i64]; omega
  by_cases h0 : r < 0
  · obtain ⟨f, hf⟩ : ∃ f : Nat, (f : Int) = r + 200001 := ⟨(r + 200001).toNat, by omega⟩
    have e1 : IntKind.i64.wrap (r + 200000) = r + 200000 := by rw [IntKind.wrap_i64]; omega
    have e2 : IntKind.i64.wrap (r + 200000 + 1) = (f : Int) := by rw [IntKind.wrap_i64]; omega
    have e3 : IntKind.i64.wrap (f : Int) = (f : Int) := by rw [IntKind.wrap_i64]; omega
    go_enter Try.func13, Try.ntmps13
    go_wp2_with fail
    go_ret
    exact ⟨f, by omega, by rw [hf]; rfl, rfl⟩
  · obtain ⟨f, hf⟩ : ∃ f : Nat, r = (f : Int) := ⟨r.toNat, by omega⟩
    subst hf
    go_enter Try.func13, Try.ntmps13
    go_wp2_with fail
    go_ret
    exact ⟨f, by omega, rfl, rfl⟩
/-- a row of values of one cell that is owned -/
def OwnV (w : World) (base : Nat) (e : TypeId) (v : Value) (vs : List Value) : Prop := w.ownsRow base e 1 v vs.length vs
theorem OwnV.lt {w : World} {base : Nat} {e : TypeId} {v : Value} {vs : List Value} (h : OwnV w base e v vs) : ∀ k, v.ownBlock = some k → base ≤ k ∧ k < w.heap.size := World.ownsRow.lt h
theorem OwnV.keeps {S : Nat → Prop} {w w' : World} {base : Nat} {e : TypeId} {v : Value} {vs : List Value} (h : OwnV w base e v vs) (hk : Keeps S w w') (hn : ∀ k, v.ownBlock = some k → ¬ S k) : OwnV w' base e v vs := by
  refine ⟨h.1, ?_⟩
  rcases h.2 with hv | ⟨g, cap, cur, rfl, hb, hgg, rest⟩
  · exact .inl hv
  · refine .inr ⟨g, cap, cur, rfl, hb, ?_, rest⟩
    rw [hk.block g (Array.getElem?_eq_some_iff.1 hgg).1 (hn g rfl)]
    exact hgg
theorem OwnV.below {w w' : World} {base : Nat} {e : TypeId} {v : Value} {vs : List Value} (h : OwnV w base e v vs) (hb : Below w.heap.size w w') : OwnV w' base e v vs := h.keeps (Keeps.of_below (S := fun _ => False) hb) (fun _ _ e => e)
theorem OwnV.pos {w : World} {base : Nat} {e : TypeId} {v : Value} {vs : List Value} (h : OwnV w base e v vs) (hp : 0 < vs.length) : ∃ g cap, v = .slice (some ⟨g, 0, none⟩) vs.length cap ∧ base ≤ g ∧ g < w.heap.size ∧ vs.length ≤ cap ∧ cap ≤ maxLen := by
  rcases h.2 with ⟨rfl, h0⟩ | ⟨g, cap, cur, rfl, hb, hg, h1, h2, _⟩
  · omega
  · exact ⟨g, cap, rfl, hb, (Array.getElem?_eq_some_iff.1 hg).1, h1, h2⟩
theorem OwnV.cell {w : World} {base : Nat} {e : TypeId} {g cap : Nat} {vs : List Value} (h : OwnV w base e (.slice (some ⟨g, 0, none⟩) vs.length cap) vs) (j : Nat) (hj : j < vs.length) : w.cell? ⟨g, j, none⟩ = some vs[j] := by
  rw [World.ownsRow.cellAt h j (by omega), List.getElem?_eq_getElem hj]
theorem OwnV.thawed {w : World} {base : Nat} {e : TypeId} {g cap : Nat} {vs : List Value} (h : OwnV w base e (.slice (some ⟨g, 0, none⟩) vs.length cap) vs) (i : Nat) : w.frozen? ⟨g, i, none⟩ = false := World.ownsRow.frozenAt h i
theorem OwnV.set {w : World} {base : Nat} {e : TypeId} {g cap : Nat} {vs : List Value} (h : OwnV w base e (.slice (some ⟨g, 0, none⟩) vs.length cap) vs) (j : Nat) (x : Value) : OwnV (w.setCell ⟨g, j, none⟩ x) base e (.slice (some ⟨g, 0, none⟩) vs.length cap) (vs.set j x) := by
  have h9 := World.ownsRow.stored h j x
  unfold OwnV
  rw [List.length_set]
  exact h9.1
theorem info_str : (Try.prog.info? 9).map (fun i => (i.zero, i.size, i.bytes)) = some (some (.string ⟨#[]⟩), 1, 16) := by kernel_rfl
theorem wpList_appendT {w : World} {base : Nat} {ops : Array Oper} {rest : List Oper} {o : Oper} {a : Act} {Q : Exit → Act → World → Prop} (hgd : o.guard = none) (s x : Operand)
    (ho : o.op = .call { callee := .builtin .append, args := #[s, x], argTypes := #[39, 39] }) {v : Value} {vs : List Value} {t : ByteArray} {g cap : Nat} (hown : OwnV w base 9 v vs) (hs : a.eval s = v) (hx : a.eval x = .slice (some ⟨g, 0, none⟩) 1 cap) (hg : w.cell? ⟨g, 0, none⟩ = some (.string t)) (hb : vs.length ≤ 1048576) (hbase : base ≤ w.heap.size)
    (h : ∀ v' w', Hid (OwnV w' base 9 v' (vs ++ [.string t])) → Hid (w.grownBy w' v.ownBlock) → Hid (v'.ownBlock = v.ownBlock ∨ v'.ownBlock = some w.heap.size) → wpList Try.prog ops Q rest (a.put o.dst v') w') : wpList Try.prog ops Q (o :: rest) a w :=
  wpList_plain hgd fun K hK => by
    obtain ⟨i, hi, hz0, hz1, hz2⟩ := info_parts info_str
    obtain ⟨v', w', r1, r2, r3, _, r5⟩ := run_append_own_at (P := Try.prog) w base 39 o.type 9 i (.string ⟨#[]⟩) 1 16 Try.underlying39 hi hz0 hz1 hz2 rfl (by omega) v vs.length vs hown ⟨g, 0, none⟩ 1 cap [.string t] rfl (fun j u hj => by
      rw [Addr.add_lit, Nat.zero_add]
      match j, hj with
      | 0, hj => rw [hg]; exact hj) (fun u hu => by obtain rfl := List.mem_singleton.1 hu; rfl) (by unfold maxLen; omega) (by omega) hbase
    have h2 : OwnV w' base 9 v' (vs ++ [.string t]) := by
      unfold OwnV
      rw [List.length_append, List.length_singleton]
      exact r2
    unfold Oper.wp execOp
    simp only [ho, resolve, invoke, builtin, Sem.run_bind, Sem.run_pure, Result.andThen_ok, List.map_toArray, List.map_cons, List.map_nil, hs, hx, r1]
    exact hK _ _ (h v' w' h2 r3 r5)
end Go.Proofs.Ytmgekglndjigiaa
