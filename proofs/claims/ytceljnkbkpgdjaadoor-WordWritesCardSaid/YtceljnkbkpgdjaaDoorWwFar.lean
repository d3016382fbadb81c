/- beyond of a script (OpFar over the texts of WordWrites; made of OpForth, Calls2, OpFar). -/
import Derived.Test.YtceljnkbkpgdjaaDoorLyAny
import Derived.Deep.RegionHeld
namespace Go.Proofs.YtceljnkbkpgdjaaDoor
open Go.RowKit
/-- a script in memory -/
def Scr (w : World) (v : Value) (os : List OpV) : Prop :=
  ∃ ao cap, v = .slice ao os.length cap ∧ os.length ≤ cap ∧ cap ≤ maxLen ∧ ∀ i (h : i < os.length), ∃ b o, ao = some ⟨b, o, none⟩ ∧ Sl w os[i].pv os[i].ps ∧ os[i].n < 18446744073709551616 ∧
    w.cell? ⟨b, o + i * 6, none⟩ = some (.int .i64 os[i].kind) ∧ w.cell? ⟨b, o + i * 6 + 1, none⟩ = some (.int .i64 os[i].pos) ∧ w.cell? ⟨b, o + i * 6 + 2, none⟩ = some (.int .u64 (os[i].n : Int)) ∧
    w.cell? ⟨b, o + i * 6 + 3, none⟩ = some (.int .i64 os[i].num) ∧ w.cell? ⟨b, o + i * 6 + 4, none⟩ = some os[i].pv ∧ w.cell? ⟨b, o + i * 6 + 5, none⟩ = some (.string os[i].s)
theorem own_ge {w : World} {base : Nat} {v : Value} {xs : List Nat} (h : Own w base v xs) {k : Nat} (hk : v.ownBlock = some k) : base ≤ k := by
  rcases h.2 with hv | ⟨g, cap, cur, rfl, hb, hgg, rest⟩
  · rcases hv with ⟨rfl, _⟩; cases hk
  · cases hk; exact hb
theorem Scr.at {w wr : World} {ao : Option Addr} {n cap : Nat} {os : List OpV} (h : Scr w (.slice ao n cap) os) (hb : Below w.heap.size w wr) (k : Nat) (hk : k < os.length) : ∃ b o op, ao = some ⟨b, o, none⟩ ∧ op = os[k] ∧ Sl wr op.pv op.ps ∧ op.n < 18446744073709551616 ∧
    wr.cell? ⟨b, o + k * 6, none⟩ = some (.int .i64 op.kind) ∧ wr.cell? ⟨b, o + k * 6 + 1, none⟩ = some (.int .i64 op.pos) ∧ wr.cell? ⟨b, o + k * 6 + 2, none⟩ = some (.int .u64 (op.n : Int)) ∧
    wr.cell? ⟨b, o + k * 6 + 3, none⟩ = some (.int .i64 op.num) ∧ wr.cell? ⟨b, o + k * 6 + 4, none⟩ = some op.pv ∧ wr.cell? ⟨b, o + k * 6 + 5, none⟩ = some (.string op.s) := by
  obtain ⟨ao', cap', e, _, _, h⟩ := h
  cases e
  obtain ⟨b, o, e, h1, h2, c0, c1, c2, c3, c4, c5⟩ := h k hk
  have hc : ∀ {i : Nat} {v : Value}, w.cell? ⟨b, i, none⟩ = some v → wr.cell? ⟨b, i, none⟩ = some v := fun {i v} hx => by
    rw [hb.cell (p := ⟨b, i, none⟩) (World.block_lt_of_cell? w _ hx)]; exact hx
  exact ⟨b, o, os[k], e, rfl, h1.below hb, h2, hc c0, hc c1, hc c2, hc c3, hc c4, hc c5⟩
set_option maxHeartbeats 1000000 in
theorem beyond3_no (a b c : Nat) (g cap : Nat) (w : World) (h : a + b + c ≤ 2147483647) (h0 : w.cell? ⟨g, 0, none⟩ = some (.int .i64 a)) (h1 : w.cell? ⟨g, 1, none⟩ = some (.int .i64 b)) (h2 : w.cell? ⟨g, 2, none⟩ = some (.int .i64 c)) :
    Calls Tryd.prog 10 #[.slice (some ⟨g, 0, none⟩) 3 cap] w fun e w' => e = .returned (.bool false) ∧ w' = w := by
  have HC0 : Hid (w.cell? ⟨g, 0, none⟩ = some (.int .i64 a)) := h0
  have HC1 : Hid (w.cell? ⟨g, 1, none⟩ = some (.int .i64 b)) := h1
  have HC2 : Hid (w.cell? ⟨g, 2, none⟩ = some (.int .i64 c)) := h2
  clear h0 h1 h2
  go_enter Tryd.func10, Tryd.ntmps10
  go_wp2
  go_loop [3, 4] (fun l i => (i = .int .i64 0 ∧ l = .int .i64 2147483647) ∨ (i = .int .i64 1 ∧ l = .int .i64 (2147483647 - a)) ∨ (i = .int .i64 2 ∧ l = .int .i64 (2147483647 - a - b)) ∨ i = .int .i64 3) (fun _ i => 3 - (intOf i).toNat)
  case atStart => exact .inl ⟨rfl, rfl⟩
  case round =>
    rcases hrel with ⟨rfl, rfl⟩ | ⟨rfl, rfl⟩ | ⟨rfl, rfl⟩ | rfl
    · have h0 := HC0.out
      go_wp2
      go_round
      case rel => exact .inr (.inl ⟨rfl, rfl⟩)
      case measure => simp [intOf]
    · have h1 := HC1.out
      go_wp2
      go_round
      case rel => exact .inr (.inr (.inl ⟨rfl, rfl⟩))
      case measure => simp [intOf]
    · have h2 := HC2.out
      go_wp2
      go_round
      case rel => exact .inr (.inr (.inr rfl))
      case measure => simp [intOf]
    · go_wp2
      go_ret
      exact ⟨rfl, rfl⟩
set_option maxHeartbeats 1000000 in
theorem beyond3_yes (a b c : Nat) (g cap : Nat) (w : World) (ha : a ≤ 2147483647) (h : 2147483647 < a + b + c) (h0 : w.cell? ⟨g, 0, none⟩ = some (.int .i64 a)) (h1 : w.cell? ⟨g, 1, none⟩ = some (.int .i64 b)) (h2 : w.cell? ⟨g, 2, none⟩ = some (.int .i64 c)) :
    Calls Tryd.prog 10 #[.slice (some ⟨g, 0, none⟩) 3 cap] w fun e w' => e = .returned (.bool true) ∧ w' = w := by
  have HC0 : Hid (w.cell? ⟨g, 0, none⟩ = some (.int .i64 a)) := h0
  have HC1 : Hid (w.cell? ⟨g, 1, none⟩ = some (.int .i64 b)) := h1
  have HC2 : Hid (w.cell? ⟨g, 2, none⟩ = some (.int .i64 c)) := h2
  clear h0 h1 h2
  go_enter Tryd.func10, Tryd.ntmps10
  go_wp2
  go_loop [3, 4] (fun l i => (i = .int .i64 0 ∧ l = .int .i64 2147483647) ∨ (i = .int .i64 1 ∧ l = .int .i64 (2147483647 - a)) ∨ (a + b ≤ 2147483647 ∧ i = .int .i64 2 ∧ l = .int .i64 (2147483647 - a - b))) (fun _ i => 3 - (intOf i).toNat)
  case atStart => exact .inl ⟨rfl, rfl⟩
  case round =>
    rcases hrel with ⟨rfl, rfl⟩ | ⟨rfl, rfl⟩ | ⟨hab, rfl, rfl⟩
    · have h0 := HC0.out
      go_wp2
      go_round
      case rel => exact .inr (.inl ⟨rfl, rfl⟩)
      case measure => simp [intOf]
    · have h1 := HC1.out
      by_cases hab : a + b ≤ 2147483647
      · go_wp2
        go_round
        case rel => exact .inr (.inr ⟨hab, rfl, rfl⟩)
        case measure => simp [intOf]
      · go_wp2
        go_ret
        exact ⟨rfl, rfl⟩
    · have h2 := HC2.out
      go_wp2
      go_ret
      exact ⟨rfl, rfl⟩
theorem wrap_i64 {n : Int} (h : n ≤ 9223372036854775807) (h0 : 0 ≤ n) : IntKind.i64.wrap n = n := by
  have e : n % 18446744073709551616 = n := Int.emod_eq_of_lt h0 (by omega)
  show (if (true && decide (n % 18446744073709551616 ≥ 9223372036854775808)) = true then n % 18446744073709551616 - 18446744073709551616 else n % 18446744073709551616) = n
  rw [e, if_neg (by simp; omega)]
def cost (o : OpV) : Nat := 4097 + o.ps.length + o.s.size
def total : List OpV → Nat
  | [] => 0
  | o :: os => cost o + total os
theorem total_take_succ {os : List OpV} {k : Nat} (h : k < os.length) : total (os.take (k + 1)) = total (os.take k) + cost os[k] := by
  induction os generalizing k with
  | nil => simp at h
  | cons o os ih =>
    cases k with
    | zero => simp [total]
    | succ k =>
      simp only [List.take_succ_cons, total, List.getElem_cons_succ]
      rw [ih (by simpa using h)]
      omega
set_option maxRecDepth 100000 in
set_option maxHeartbeats 2000000 in
theorem beyond_any {w : World} {v : Value} {os : List OpV} (hv : Scr w v os) :
    Calls Tryd.prog 5 #[v] w fun e w' => ∃ r : Bool, e = .returned (.bool r) ∧ (r = false → total os ≤ 2147483647) ∧ Below w.heap.size w w' := by
  have HV : Hid (Scr w v os) := hv
  obtain ⟨ao, cap, rfl, hcap, hmax, hcells⟩ := hv
  clear hcells
  unfold maxLen at hmax
  go_enter Tryd.func5, Tryd.ntmps5
  go_wp2
  go_loopw [3, 4] (fun l i wr => ∃ k : Nat, k ≤ os.length ∧ i = .int .i64 (k : Int) ∧ l = .int .i64 ((2147483647 - total (os.take k) : Nat) : Int) ∧ total (os.take k) ≤ 2147483647 ∧ Hid (Below w.heap.size w wr)) (fun _ i _ => os.length - (intOf i).toNat)
  case atStart => exact ⟨0, Nat.zero_le _, rfl, rfl, Nat.zero_le _, Below.refl _ _⟩
  case round =>
    obtain ⟨k, hk, rfl, rfl, htot, HB⟩ := hrel
    by_cases hlt : k < os.length
    · obtain ⟨b, of, op, hao, hop, hsl, hn, c0, c1, c2, c3, c4, c5⟩ := HV.out.at HB.out k hlt
      subst hao
      obtain ⟨pa, pc, hpv⟩ : ∃ a c, op.pv = .slice a op.ps.length c := by
        obtain ⟨a, c, e, _⟩ := hsl
        exact ⟨a, c, e⟩
      rw [hpv] at c4
      clear c0 c1 c2 c3 hsl hpv
      have hc : cost os[k] = 4097 + op.ps.length + op.s.size := by rw [← hop]; rfl
      have hts := total_take_succ hlt
      clear hop
      obtain ⟨T, hT⟩ : ∃ T, total (os.take k) = T := ⟨_, rfl⟩
      rw [hT] at htot hts ⊢
      have HX : Hid (∀ x, Below w.heap.size w (wr.alloc x).drew) := fun x => (HB.out.alloc HB.out.size x).drew
      by_cases hle : 4097 + op.ps.length + op.s.size ≤ 2147483647
      · have hW : IntKind.i64.wrap (IntKind.i64.wrap (4097 + (op.ps.length : Int)) + (op.s.size : Int)) = ((4097 + op.ps.length + op.s.size : Nat) : Int) := by
          rw [wrap_i64 (show 4097 + (op.ps.length : Int) ≤ 9223372036854775807 by omega) (by omega), wrap_i64 (by omega) (by omega)]; omega
        by_cases hov : T + (4097 + op.ps.length + op.s.size) ≤ 2147483647
        · have hd : decide (((2147483647 - T : Nat) : Int) < IntKind.i64.wrap (IntKind.i64.wrap (4097 + (op.ps.length : Int)) + (op.s.size : Int))) = false := by
            rw [hW]; exact decide_eq_false (by omega)
          have HN : Hid (total (os.take (k + 1)) = T + (4097 + op.ps.length + op.s.size)) := hts.trans (by rw [hc])
          clear hts hc
          go_wp2
          go_region_held (fun w' => w'.cell? ⟨b, of + k * 6 + 4, none⟩ = some (.slice pa op.ps.length pc) ∧ w'.cell? ⟨b, of + k * 6 + 5, none⟩ = some (.string op.s)) (go_keep) (first | (go_at_call 10; refine (beyond3_no 4097 op.ps.length op.s.size _ _ _ hle (by simp) (by simp) (by simp)).mono ?_; rintro e w' ⟨rfl, rfl⟩))
          all_goals
            go_wp2
            go_region_held (fun w' => w'.cell? ⟨b, of + k * 6 + 4, none⟩ = some (.slice pa op.ps.length pc) ∧ w'.cell? ⟨b, of + k * 6 + 5, none⟩ = some (.string op.s)) (go_keep) (fail)
          all_goals
            go_wp2
            go_roundw
            case rel => exact ⟨k + 1, by omega, by go_num, (by rw [HN.out]; exact congrArg (Value.int .i64) (by rw [wrap_i64 (n := ((2147483647 - T : Nat) : Int) - 4097) (by omega) (by omega), wrap_i64 (n := ((2147483647 - T : Nat) : Int) - 4097 - (op.ps.length : Int)) (by omega) (by omega), wrap_i64 (by omega) (by omega)]; omega)), (by rw [HN.out]; exact hov), (HX.out _).drew⟩
            case measure => simp [intOf]; omega
        · have hd : decide (((2147483647 - T : Nat) : Int) < IntKind.i64.wrap (IntKind.i64.wrap (4097 + (op.ps.length : Int)) + (op.s.size : Int))) = true := by
            rw [hW]; exact decide_eq_true (by omega)
          clear hts hc
          go_wp2
          go_region_held (fun w' => w'.cell? ⟨b, of + k * 6 + 4, none⟩ = some (.slice pa op.ps.length pc) ∧ w'.cell? ⟨b, of + k * 6 + 5, none⟩ = some (.string op.s)) (go_keep) (first | (go_at_call 10; refine (beyond3_no 4097 op.ps.length op.s.size _ _ _ hle (by simp) (by simp) (by simp)).mono ?_; rintro e w' ⟨rfl, rfl⟩))
          all_goals
            go_wp2
            go_ret
            exact ⟨true, rfl, (fun h => by cases h), HX.out _⟩
      · clear hts hc
        go_wp2
        refine wp_region_held_drew (S := (fun w' => w'.cell? ⟨b, of + k * 6 + 4, none⟩ = some (.slice pa op.ps.length pc) ∧ w'.cell? ⟨b, of + k * 6 + 5, none⟩ = some (.string op.s))) (by kernel_rfl) (by go_keep) (fun hS => ?_)
        refine wpAnyH_take (i := 0) (v := .int .i64 4097) rfl (by kernel_rfl) (by kernel_rfl) (by kernel_rfl) (fun _ _ _ h => h) (Or.inl ⟨by kernel_rfl, ?_⟩) hS ?_
        · intro w hSw; obtain ⟨q1, q2⟩ := hSw; go_simp
        refine wpAnyH_take (i := 1) (v := (.slice (some ⟨b, of, none⟩) os.length cap)) rfl (by kernel_rfl) (by kernel_rfl) (by kernel_rfl) (fun _ _ _ h => h) (Or.inl ⟨by kernel_rfl, ?_⟩) hS ?_
        · intro w hSw; obtain ⟨q1, q2⟩ := hSw; go_simp
        refine wpAnyH_take (i := 2) (v := (.int .i64 (k : Int))) rfl (by kernel_rfl) (by kernel_rfl) (by kernel_rfl) (fun _ _ _ h => h) (Or.inl ⟨by kernel_rfl, ?_⟩) hS ?_
        · intro w hSw; obtain ⟨q1, q2⟩ := hSw; go_simp
        refine wpAnyH_take (i := 3) (v := (.pointer (some ⟨b, of + k * 6, none⟩))) rfl (by kernel_rfl) (by kernel_rfl) (by kernel_rfl) (fun _ _ _ h => h) (Or.inl ⟨by kernel_rfl, ?_⟩) hS ?_
        · intro w hSw; obtain ⟨q1, q2⟩ := hSw; go_simp
        refine wpAnyH_take (i := 4) (v := (.pointer (some ⟨b, of + k * 6 + 4, none⟩))) rfl (by kernel_rfl) (by kernel_rfl) (by kernel_rfl) (fun _ _ _ h => h) (Or.inl ⟨by kernel_rfl, ?_⟩) hS ?_
        · intro w hSw; obtain ⟨q1, q2⟩ := hSw; go_simp
        refine wpAnyH_take (i := 5) (v := (.slice pa op.ps.length pc)) rfl (by kernel_rfl) (by kernel_rfl) (by kernel_rfl) (fun _ _ _ h => h) (Or.inl ⟨by kernel_rfl, ?_⟩) hS ?_
        · intro w hSw; obtain ⟨q1, q2⟩ := hSw; go_simp
        refine wpAnyH_take (i := 6) (v := (.int .i64 (op.ps.length : Int))) rfl (by kernel_rfl) (by kernel_rfl) (by kernel_rfl) (fun _ _ _ h => h) (Or.inl ⟨by kernel_rfl, ?_⟩) hS ?_
        · intro w hSw; obtain ⟨q1, q2⟩ := hSw; go_simp
        refine wpAnyH_take (i := 7) (v := (.slice (some ⟨b, of, none⟩) os.length cap)) rfl (by kernel_rfl) (by kernel_rfl) (by kernel_rfl) (fun _ _ _ h => h) (Or.inl ⟨by kernel_rfl, ?_⟩) hS ?_
        · intro w hSw; obtain ⟨q1, q2⟩ := hSw; go_simp
        refine wpAnyH_take (i := 8) (v := (.int .i64 (k : Int))) rfl (by kernel_rfl) (by kernel_rfl) (by kernel_rfl) (fun _ _ _ h => h) (Or.inl ⟨by kernel_rfl, ?_⟩) hS ?_
        · intro w hSw; obtain ⟨q1, q2⟩ := hSw; go_simp
        refine wpAnyH_take (i := 9) (v := (.pointer (some ⟨b, of + k * 6, none⟩))) rfl (by kernel_rfl) (by kernel_rfl) (by kernel_rfl) (fun _ _ _ h => h) (Or.inl ⟨by kernel_rfl, ?_⟩) hS ?_
        · intro w hSw; obtain ⟨q1, q2⟩ := hSw; go_simp
        refine wpAnyH_take (i := 10) (v := (.pointer (some ⟨b, of + k * 6 + 5, none⟩))) rfl (by kernel_rfl) (by kernel_rfl) (by kernel_rfl) (fun _ _ _ h => h) (Or.inl ⟨by kernel_rfl, ?_⟩) hS ?_
        · intro w hSw; obtain ⟨q1, q2⟩ := hSw; go_simp
        refine wpAnyH_take (i := 11) (v := (.string op.s)) rfl (by kernel_rfl) (by kernel_rfl) (by kernel_rfl) (fun _ _ _ h => h) (Or.inl ⟨by kernel_rfl, ?_⟩) hS ?_
        · intro w hSw; obtain ⟨q1, q2⟩ := hSw; go_simp
        refine wpAnyH_take (i := 12) (v := (.int .i64 (op.s.size : Int))) rfl (by kernel_rfl) (by kernel_rfl) (by kernel_rfl) (fun _ _ _ h => h) (Or.inl ⟨by kernel_rfl, ?_⟩) hS ?_
        · intro w hSw; obtain ⟨q1, q2⟩ := hSw; go_simp
        refine wpAnyH_ready (rs := [13]) (by kernel_rfl) (by simp) (AllReadyH.cons rfl (fun K hK => ?_) AllReadyH.nil)
        go_simp
        refine hK.out _ _ (by go_keep) (fun hS => ?_)
        clear hK K
        refine wpAnyH_ready (rs := [14]) (by kernel_rfl) (by simp) (AllReadyH.cons rfl (fun K hK => ?_) AllReadyH.nil)
        go_wp2_with fail
        refine (beyond3_yes 4097 op.ps.length op.s.size _ _ _ (by decide) (by omega) (by simp) (by simp) (by simp)).mono ?_
        rintro e w' ⟨rfl, rfl⟩
        refine hK.out _ _ hS (fun _ => ?_)
        clear hK K
        refine wpAnyH_take (i := 15) (v := .bool true) rfl (by kernel_rfl) (by kernel_rfl) (by kernel_rfl) (fun _ _ _ h => h) (Or.inl ⟨by kernel_rfl, ?_⟩) hS ?_
        · intro w hSw; obtain ⟨q1, q2⟩ := hSw; go_simp
        refine wpAnyH_take (i := 16) (v := undef) rfl (by kernel_rfl) (by kernel_rfl) (by kernel_rfl) (fun _ _ _ h => h) (Or.inr ⟨by kernel_rfl, rfl⟩) hS ?_
        refine wpAnyH_take (i := 17) (v := undef) rfl (by kernel_rfl) (by kernel_rfl) (by kernel_rfl) (fun _ _ _ h => h) (Or.inr ⟨by kernel_rfl, rfl⟩) hS ?_
        refine wpAnyH_take (i := 18) (v := undef) rfl (by kernel_rfl) (by kernel_rfl) (by kernel_rfl) (fun _ _ _ h => h) (Or.inr ⟨by kernel_rfl, rfl⟩) hS ?_
        refine wpAnyH_take (i := 19) (v := undef) rfl (by kernel_rfl) (by kernel_rfl) (by kernel_rfl) (fun _ _ _ h => h) (Or.inr ⟨by kernel_rfl, rfl⟩) hS ?_
        refine wpAnyH_take (i := 20) (v := undef) rfl (by kernel_rfl) (by kernel_rfl) (by kernel_rfl) (fun _ _ _ h => h) (Or.inr ⟨by kernel_rfl, rfl⟩) hS ?_
        refine wpAnyH_take (i := 21) (v := undef) rfl (by kernel_rfl) (by kernel_rfl) (by kernel_rfl) (fun _ _ _ h => h) (Or.inr ⟨by kernel_rfl, rfl⟩) hS ?_
        refine wpAnyH_take (i := 22) (v := undef) rfl (by kernel_rfl) (by kernel_rfl) (by kernel_rfl) (fun _ _ _ h => h) (Or.inr ⟨by kernel_rfl, rfl⟩) hS ?_
        refine wpAnyH_take (i := 23) (v := undef) rfl (by kernel_rfl) (by kernel_rfl) (by kernel_rfl) (fun _ _ _ h => h) (Or.inr ⟨by kernel_rfl, rfl⟩) hS ?_
        refine wpAnyH_take (i := 24) (v := undef) rfl (by kernel_rfl) (by kernel_rfl) (by kernel_rfl) (fun _ _ _ h => h) (Or.inr ⟨by kernel_rfl, rfl⟩) hS ?_
        refine wpAnyH_take (i := 25) (v := undef) rfl (by kernel_rfl) (by kernel_rfl) (by kernel_rfl) (fun _ _ _ h => h) (Or.inr ⟨by kernel_rfl, rfl⟩) hS ?_
        refine wpAnyH_take (i := 26) (v := undef) rfl (by kernel_rfl) (by kernel_rfl) (by kernel_rfl) (fun _ _ _ h => h) (Or.inr ⟨by kernel_rfl, rfl⟩) hS ?_
        refine wpAnyH_take (i := 27) (v := undef) rfl (by kernel_rfl) (by kernel_rfl) (by kernel_rfl) (fun _ _ _ h => h) (Or.inr ⟨by kernel_rfl, rfl⟩) hS ?_
        refine wpAnyH_take (i := 28) (v := undef) rfl (by kernel_rfl) (by kernel_rfl) (by kernel_rfl) (fun _ _ _ h => h) (Or.inr ⟨by kernel_rfl, rfl⟩) hS ?_
        refine wpAnyH_take (i := 29) (v := undef) rfl (by kernel_rfl) (by kernel_rfl) (by kernel_rfl) (fun _ _ _ h => h) (Or.inr ⟨by kernel_rfl, rfl⟩) hS ?_
        refine wpAnyH_take (i := 30) (v := undef) rfl (by kernel_rfl) (by kernel_rfl) (by kernel_rfl) (fun _ _ _ h => h) (Or.inr ⟨by kernel_rfl, rfl⟩) hS ?_
        refine wpAnyH_take (i := 31) (v := undef) rfl (by kernel_rfl) (by kernel_rfl) (by kernel_rfl) (fun _ _ _ h => h) (Or.inr ⟨by kernel_rfl, rfl⟩) hS ?_
        refine wpAnyH_take (i := 32) (v := undef) rfl (by kernel_rfl) (by kernel_rfl) (by kernel_rfl) (fun _ _ _ h => h) (Or.inr ⟨by kernel_rfl, rfl⟩) hS ?_
        refine wpAnyH_take (i := 33) (v := .bool true) rfl (by kernel_rfl) (by kernel_rfl) (by kernel_rfl) (fun _ _ _ h => h) (Or.inl ⟨by kernel_rfl, ?_⟩) hS ?_
        · intro w hSw; obtain ⟨q1, q2⟩ := hSw; go_simp
        refine wpAnyH_done (by kernel_rfl) ?_ _
        go_simp
        go_wp2
        go_ret
        exact ⟨true, by kernel_rfl, (fun h => by cases h), HX.out _⟩
    · have HE : Hid (total os ≤ 2147483647) := by
        have : k = os.length := by omega
        rw [this, List.take_length] at htot
        exact htot
      go_wp2
      go_ret
      exact ⟨false, rfl, fun _ => HE.out, HB.out⟩
end Go.Proofs.YtceljnkbkpgdjaaDoor
