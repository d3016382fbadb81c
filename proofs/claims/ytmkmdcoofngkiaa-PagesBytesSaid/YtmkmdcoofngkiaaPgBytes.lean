/- Pages: Bytes and Read. Own work. -/
import Derived.Test.YtmkmdcoofngkiaaPgTab
import Derived.Test.YtmkmdcoofngkiaaSWord
import Derived.Lib.Hide
import Derived.Deep.DeepCutAuto
import Derived.Deep.CutBlock
namespace Go.Proofs.Ytmkmdcoofngkiaa
open Go.RowKit Go.Shelf
set_option linter.unusedVariables false
/-- the first k of them read -/
def setN (f : Nat → Nat) (k : Nat) : Nat → Nat := fun i => if i < k then f i else 0
theorem own_at {w : World} {g base : Nat} {L : List Nat} (h : Row w g L) (hb : base ≤ g) (hm : L.length ≤ maxLen) : Own w base (.slice (some ⟨g, 0, none⟩) L.length L.length) L :=
  ⟨by simp [bvs], .inr ⟨g, L.length, _, rfl, hb, h, Nat.le_refl _, hm, by simp [bvs], by rw [List.take_of_length_le (by simp [bvs])]⟩⟩
set_option maxRecDepth 4000 in
set_option maxHeartbeats 4000000 in
theorem pbytes_any {f : Nat → Nat} (hf : ∀ i, i < 512 → f i ≤ 18446744073709551615) (w : World) : Calls Try.prog 18 #[.agg (tabV f)] w fun e w' => ∃ g, e = .returned (.slice (some ⟨g, 0, none⟩) 4096 4096) ∧ w.heap.size ≤ g ∧ Row w' g (tabN f 512) ∧ Below w.heap.size w w' := by
  have HF : Hid (∀ i, i < 512 → f i ≤ 18446744073709551615) := hf
  have HT0 : Hid (TabAt (w.alloc (.cells (tabV f) 28)) w.heap.size f) := TabAt.new w f
  have HB0 : Hid (Below w.heap.size w (w.alloc (.cells (tabV f) 28))) := (Below.refl _ _).alloc (Nat.le_refl _) _
  clear hf
  go_enter Try.func18, Try.ntmps18
  go_wp2_with fail
  refine (newWriter_any _).mono ?_
  rintro e w1 ⟨rfl, hwr, hb1⟩
  have HT1 : Hid (TabAt w1 w.heap.size f) := HT0.out.below hb1 (by simp)
  have HB1 : Hid (Below w.heap.size w w1) := HB0.out.trans (hb1.mono HB0.out.size)
  have hsz : (w.alloc (.cells (tabV f) 28)).heap.size = w.heap.size + 1 := by simp
  rw [hsz] at hwr
  have HW1 := Lib.hid hwr
  have hz9 : (Value.pointer (some ⟨(w.alloc (.cells (tabV f) 28)).heap.size, 0, none⟩)) = .pointer (some ⟨w.heap.size + 1, 0, none⟩) := by rw [hsz]
  clear hb1 hwr HT0 HB0 hsz
  rw [hz9]
  go_wp2_with (refine wpList_load_tab (b := w.heap.size) (f := f) rfl (.tmp 1) rfl rfl HT1.out ?_)
  go_loopw [8] (fun kv wr => ∃ k : Nat, k ≤ 512 ∧ kv = .int .i64 (k : Int) ∧ ∃ v, Hid (Wr wr (w.heap.size + 1) v (tabN f k) 0 (w.heap.size + 1)) ∧ Hid (Below w.heap.size w wr)) (fun kv _ => 512 - (intOf kv).toNat)
  case atStart => exact ⟨0, by omega, rfl, _, HW1, HB1⟩
  case round =>
    clear HW1 HB1 HT1
    obtain ⟨k, hk, rfl, v, HW, HB⟩ := hrel
    by_cases hk5 : k < 512
    · have jk : (k : Int) < 512 := by omega
      have hwk : IntKind.i64.wrap ((k : Int) + 1) = ((k + 1 : Nat) : Int) := by rw [IntKind.wrap_i64]; omega
      have hg : (tabV f)[k]? = some (.int .u64 (f k : Int)) := tabV_get f hk5
      have hx : ∀ W, (Instr.index 28 (.agg (tabV f)) (.int .i64 (k : Int))).run Try.prog W = .ok (.int .u64 (f k : Int)) W := tab_index f hk5
      have HS : Hid (w.heap.size + 1 ≤ wr.heap.size) := Nat.le_of_lt HW.out.lt
      have HP := Lib.hid (put_u64 HW.out (HF.out k hk5) (by rw [tabN_len]; omega) HS.out)
      have HBn : Hid (∀ w', Keeps (Foot (w.heap.size + 1) v) wr w' → Below w.heap.size w w') := fun w' hk' => HB.out.trans (hk'.below HB.out.size (fun i _ e => by
        rcases e with e | e
        · omega
        · have := (HW.out.2.1.lt i e).1; omega))
      clear hg
      go_wp2_with fail
      refine HP.out.mono ?_
      rintro e w2 ⟨rfl, v2, hw2, hk2, _⟩
      have HW2 : Hid (Wr w2 (w.heap.size + 1) v2 (tabN f (k + 1)) 0 (w.heap.size + 1)) := hw2
      have HB2 := Lib.hid (HBn.out _ hk2)
      clear hw2 hk2 HP HBn HW HB
      go_wp2_with fail
      go_roundw
      case rel => exact ⟨k + 1, by omega, rfl, _, HW2, HB2⟩
      case measure => simp [intOf]; omega
    · have jk : ¬ (k : Int) < 512 := by omega
      have HA : Hid (Calls Try.prog 48 #[.pointer (some ⟨w.heap.size + 1, 0, none⟩)] wr fun e w' => e = .returned (.slice (some ⟨wr.heap.size, 0, none⟩) 4096 4096) ∧ Row w' wr.heap.size (tabN f 512) ∧ Below wr.heap.size wr w') := by
        have h5 := all_any HW.out (by rw [tabN_len]; omega)
        rw [show k = 512 by omega, tabN_len] at h5
        exact h5
      go_wp2_with fail
      refine HA.out.mono ?_
      rintro e w2 ⟨rfl, hr2, hb2⟩
      have HR2 := Lib.hid hr2
      have HB2 : Hid (Below w.heap.size w w2) := HB.out.trans (hb2.mono HB.out.size)
      have HS2 : Hid (w.heap.size ≤ wr.heap.size) := HB.out.size
      clear hr2 hb2 HA
      go_wp2_with fail
      go_ret
      exact ⟨_, rfl, HS2.out, HR2.out, HB2.out⟩
/-- Read of as many bytes as a table has -/
theorem results_tab {fn : Func} {p q : Tmp} (h : fn.results = #[.cell p 28, .tmp q]) {tmps : Array Value} {w : World} {b : Nat} {g : Nat → Nat} {u : Value} (hp : tmps[p]?.getD undef = .pointer (some ⟨b, 0, none⟩)) (hq : tmps[q]?.getD undef = u) (hg : TabAt w b g) :
    (results fn tmps).run Try.prog w = .ok (.tuple #[.agg (tabV g), u]) w := by
  have hl := hg.load
  simp only [Instr.loadAt, Instr.sureAddr, Sem.run_bind, Sem.run_pure, Result.andThen] at hl
  simp [results, h, hp, hq, asAddr, Result.andThen, hl]
set_option maxRecDepth 4000 in
set_option maxHeartbeats 4000000 in
theorem pread_yes {w : World} {v : Value} {zs : List Nat} (hs : Sl w v zs) (hl : zs.length = 4096) : Calls Try.prog 21 #[v] w fun e w' => e = .returned (.tuple #[.agg (tabV (numT zs)), .bool true]) ∧ Below w.heap.size w w' := by
  have HS := Lib.hid hs
  obtain ⟨ao, cap, rfl, h1, h2, _⟩ := hs
  have hz := tab_zero.1
  rw [hl] at HS h1 ⊢
  have HL := Lib.hid hl
  clear hl
  obtain ⟨W0, hW0⟩ : ∃ W0, (w.alloc (.cells (tabV fun _ => 0) 28)).alloc (.cells (tabV fun _ => 0) 28) = W0 := ⟨_, rfl⟩
  have HP0 : Hid (TabAt W0 w.heap.size (fun _ => 0)) := hW0 ▸ (TabAt.new w _).alloc _
  have HQ0 : Hid (TabAt W0 (w.heap.size + 1) (fun _ => 0)) := show TabAt W0 (w.heap.size + 1) (fun _ => 0) by
    have := TabAt.new (w.alloc (.cells (tabV fun _ => 0) 28)) (fun _ => 0)
    rw [hW0] at this
    simpa using this
  have HB0 : Hid (Below w.heap.size w W0) := hW0 ▸ ((Below.refl _ _).alloc (Nat.le_refl _) _).alloc (by simp) _
  have HZ0 : Hid (W0.heap.size = w.heap.size + 2) := by show _ = _; rw [← hW0]; simp
  have HNR := Lib.hid (newReader_any (HS.out.below HB0.out) (by rw [HL.out]; omega))
  go_enter Try.func21, Try.ntmps21
  go_wp2_with fail
  clear hW0
  refine HNR.out.mono ?_
  rintro e w1 ⟨p, rfl, hp, hrd, hb1⟩
  have HP1 : Hid (TabAt w1 w.heap.size (fun _ => 0)) := HP0.out.below hb1 HP0.out.lt
  have HQ1 : Hid (TabAt w1 (w.heap.size + 1) (setN (numT zs) 0)) := (HQ0.out.below hb1 HQ0.out.lt).ext (fun i _ => by simp [setN])
  have HB1 : Hid (Below w.heap.size w w1) := HB0.out.trans (hb1.mono HB0.out.size)
  have HR1 := Lib.hid hrd
  have HPp : Hid (w.heap.size + 2 < p) := by have := HZ0.out; show _ < _; omega
  have HGp : Hid (w.heap.size + 2 ≤ W0.heap.size) := by have := HZ0.out; show _ ≤ _; omega
  clear hp hrd hb1 HNR HP0 HQ0 HB0 HZ0
  go_wp2_with fail
  go_loopw [13] (fun kv wr => ∃ k : Nat, k ≤ 512 ∧ kv = .int .i64 (k : Int) ∧ Hid (Rd wr p W0.heap.size zs (8 * k) 0) ∧ Hid (TabAt wr w.heap.size (fun _ => 0)) ∧ Hid (TabAt wr (w.heap.size + 1) (setN (numT zs) k)) ∧ Hid (Below w.heap.size w wr)) (fun kv _ => 512 - (intOf kv).toNat)
  case atStart => exact ⟨0, by omega, rfl, HR1, HP1, HQ1, HB1⟩
  case round =>
    clear HR1 HP1 HQ1 HB1
    obtain ⟨k, hk, rfl, HR, HP, HQ, HB⟩ := hrel
    by_cases hk5 : k < 512
    · have jk : (k : Int) < 512 := by omega
      have hwk : IntKind.i64.wrap ((k : Int) + 1) = ((k + 1 : Nat) : Int) := by rw [IntKind.wrap_i64]; omega
      have HC := Lib.hid (ru64_yes HR.out (by rw [HL.out]; omega))
      go_wp2_with fail
      refine HC.out.mono ?_
      rintro e w2 ⟨rfl, hr2, hk2⟩
      have HP2 : Hid (TabAt w2 w.heap.size (fun _ => 0)) := (hk2.block _ HP.out.lt (fun e => by have := HPp.out; omega)).trans HP.out
      have hq2 : TabAt w2 (w.heap.size + 1) (setN (numT zs) k) := (hk2.block _ HQ.out.lt (fun e => by have := HPp.out; omega)).trans HQ.out
      have hc := hq2.cell (p := k) hk5
      have hf := hq2.free k
      have HQ3 : Hid (TabAt (w2.setCell ⟨w.heap.size + 1, k, none⟩ (.int .u64 ((Pl.num 8 (zs.drop (8 * k)) : Nat) : Int))) (w.heap.size + 1) (setN (numT zs) (k + 1))) := (hq2.set hk5 (Pl.num 8 (zs.drop (8 * k)))).ext (fun i _ => by
        simp only [setT, setN]
        by_cases e : i = k
        · subst e
          rw [if_pos rfl, if_pos (by omega)]
          rfl
        · rw [if_neg e]
          by_cases e2 : i < k
          · rw [if_pos e2, if_pos (by omega)]
          · rw [if_neg e2, if_neg (by omega)])
      have HP3 : Hid (TabAt (w2.setCell ⟨w.heap.size + 1, k, none⟩ (.int .u64 ((Pl.num 8 (zs.drop (8 * k)) : Nat) : Int))) w.heap.size (fun _ => 0)) := HP2.out.other (by omega)
      have HR3 : Hid (Rd (w2.setCell ⟨w.heap.size + 1, k, none⟩ (.int .u64 ((Pl.num 8 (zs.drop (8 * k)) : Nat) : Int))) p W0.heap.size zs (8 * (k + 1)) 0) := by
        have h5 := hr2.keeps (Keeps.setCell w2 (w.heap.size + 1) k (.int .u64 ((Pl.num 8 (zs.drop (8 * k)) : Nat) : Int))) (by have := HPp.out; omega) (by have := HGp.out; omega)
        rw [show 8 * (k + 1) = 8 * k + 8 by omega]
        exact h5
      have HB3 : Hid (Below w.heap.size w (w2.setCell ⟨w.heap.size + 1, k, none⟩ (.int .u64 ((Pl.num 8 (zs.drop (8 * k)) : Nat) : Int)))) := (HB.out.trans (hk2.below HB.out.size (fun i _ e => by have := HPp.out; omega))).setCell (p := ⟨w.heap.size + 1, k, none⟩) (by show w.heap.size ≤ w.heap.size + 1; omega) _
      clear hr2 hk2 hq2 HR HP HQ HB HC HP2
      generalize Pl.num 8 (zs.drop (8 * k)) = X at *
      generalize setN (numT zs) k k = Y at *
      go_wp2_with fail
      go_roundw
      case rel => exact ⟨k + 1, by omega, rfl, HR3, HP3, HQ3, HB3⟩
      case measure => simp [intOf]; omega
    · have jk : ¬ (k : Int) < 512 := by omega
      have HQ2 : Hid (TabAt wr (w.heap.size + 1) (numT zs)) := HQ.out.ext (fun i hi => by simp only [setN]; rw [if_pos (by omega)])
      clear HQ
      go_wp2_with (first | (refine wpList_load_tab (b := w.heap.size + 1) (f := numT zs) rfl (.tmp 4) rfl rfl HQ2.out ?_) | (refine wpList_store_tab (b := w.heap.size) (g := numT zs) rfl (.tmp 2) (.tmp 21) rfl rfl rfl rfl HP.out ?_))
      exact bodyPost_ret (v := .tuple #[.agg (tabV (numT zs)), .bool true]) (results_tab rfl (by rfl) (by rfl) (HP.out.setRow (numT zs))) rfl ⟨rfl, HB.out.trans (below_setRow _ _ _ _ (Nat.le_refl _))⟩
set_option maxRecDepth 4000 in
set_option maxHeartbeats 4000000 in
theorem pread_no {w : World} {v : Value} {zs : List Nat} (hs : Sl w v zs) (hl : zs.length ≠ 4096) : Calls Try.prog 21 #[v] w fun e w' => e = .returned (.tuple #[.agg (tabV fun _ => 0), .bool false]) ∧ Below w.heap.size w w' := by
  obtain ⟨ao, cap, rfl, h1, h2, _⟩ := hs
  have hz := tab_zero.1
  obtain ⟨n, hn⟩ : ∃ n, zs.length = n := ⟨_, rfl⟩
  rw [hn] at h1 hl ⊢
  clear hn
  have jl : (n : Int) ≠ 4096 := by omega
  obtain ⟨W0, hW0⟩ : ∃ W0, (w.alloc (.cells (tabV fun _ => 0) 28)).alloc (.cells (tabV fun _ => 0) 28) = W0 := ⟨_, rfl⟩
  have HP0 : Hid (TabAt W0 w.heap.size (fun _ => 0)) := hW0 ▸ (TabAt.new w _).alloc _
  have HQ0 : Hid (TabAt W0 (w.heap.size + 1) (fun _ => 0)) := show TabAt W0 (w.heap.size + 1) (fun _ => 0) by
    have := TabAt.new (w.alloc (.cells (tabV fun _ => 0) 28)) (fun _ => 0)
    rw [hW0] at this
    simpa using this
  have HB0 : Hid (Below w.heap.size w W0) := hW0 ▸ ((Below.refl _ _).alloc (Nat.le_refl _) _).alloc (by simp) _
  go_enter Try.func21, Try.ntmps21
  go_upto_region 3 with fail
  clear hW0
  go_wp2_with (first | (refine wpList_load_tab (b := w.heap.size + 1) (f := fun _ => 0) rfl (.tmp 4) rfl rfl HQ0.out ?_) | (refine wpList_store_tab (b := w.heap.size) (g := fun _ => 0) rfl (.tmp 2) (.tmp 10) rfl rfl rfl rfl HP0.out ?_))
  exact bodyPost_ret (v := .tuple #[.agg (tabV fun _ => 0), .bool false]) (results_tab rfl (by rfl) (by rfl) (HP0.out.setRow (fun _ => 0))) rfl ⟨rfl, HB0.out.trans (below_setRow _ _ _ _ (Nat.le_refl _))⟩
end Go.Proofs.Ytmkmdcoofngkiaa
