import Derived.Test.YtceljnkbkpgdjaaDoorRdStep
import Derived.Deep.RegionWith
import Derived.Deep.DeepCutAuto
import Derived.Deep.CutBlock
import Derived.Test.YtceljnkbkpgdjaaDoorLaid
import Derived.Deep.Slices
/- WordReads: scripts whose numbers are ints; Beyond of one number; the law. Own work. -/
namespace Go.Proofs.YtceljnkbkpgdjaaDoor
open Go.RowKit Go.Shelf
set_option linter.unusedVariables false
/-- a script in memory -/
def Scq (w : World) (v : Value) (os : List OpV) : Prop :=
  ∃ ao cap, v = .slice ao os.length cap ∧ os.length ≤ cap ∧ cap ≤ maxLen ∧ ∀ i (h : i < os.length), ∃ b o, ao = some ⟨b, o, none⟩ ∧ os[i].num ≤ 9223372036854775807 ∧ (∃ pa pl pc, os[i].pv = .slice pa pl pc) ∧
    w.cell? ⟨b, o + i * 6, none⟩ = some (.int .i64 os[i].kind) ∧ w.cell? ⟨b, o + i * 6 + 1, none⟩ = some (.int .i64 os[i].pos) ∧ w.cell? ⟨b, o + i * 6 + 2, none⟩ = some (.int .u64 (os[i].n : Int)) ∧
    w.cell? ⟨b, o + i * 6 + 3, none⟩ = some (.int .i64 os[i].num) ∧ w.cell? ⟨b, o + i * 6 + 4, none⟩ = some os[i].pv ∧ w.cell? ⟨b, o + i * 6 + 5, none⟩ = some (.string os[i].s)
theorem Scq.at {w wr : World} {ao : Option Addr} {n cap : Nat} {os : List OpV} (h : Scq w (.slice ao n cap) os) (hb : Below w.heap.size w wr) (k : Nat) (hk : k < os.length) : ∃ b o op pa pl pc, ao = some ⟨b, o, none⟩ ∧ op = os[k] ∧ op.num ≤ 9223372036854775807 ∧ op.pv = .slice pa pl pc ∧
    wr.cell? ⟨b, o + k * 6, none⟩ = some (.int .i64 op.kind) ∧ wr.cell? ⟨b, o + k * 6 + 1, none⟩ = some (.int .i64 op.pos) ∧ wr.cell? ⟨b, o + k * 6 + 2, none⟩ = some (.int .u64 (op.n : Int)) ∧
    wr.cell? ⟨b, o + k * 6 + 3, none⟩ = some (.int .i64 op.num) ∧ wr.cell? ⟨b, o + k * 6 + 4, none⟩ = some (.slice pa pl pc) ∧ wr.cell? ⟨b, o + k * 6 + 5, none⟩ = some (.string op.s) := by
  obtain ⟨ao', cap', e, _, _, h⟩ := h
  cases e
  obtain ⟨b, o, e, h1, ⟨pa, pl, pc, hp⟩, c0, c1, c2, c3, c4, c5⟩ := h k hk
  have hc : ∀ {i : Nat} {v : Value}, w.cell? ⟨b, i, none⟩ = some v → wr.cell? ⟨b, i, none⟩ = some v := fun {i v} hx => by
    rw [hb.cell (p := ⟨b, i, none⟩) (World.block_lt_of_cell? w _ hx)]; exact hx
  rw [hp] at c4
  exact ⟨b, o, os[k], pa, pl, pc, e, rfl, h1, hp, hc c0, hc c1, hc c2, hc c3, hc c4, hc c5⟩
set_option maxHeartbeats 1000000 in
theorem beyond1_no (a : Nat) (g cap : Nat) (w : World) (h : a ≤ 2147483647) (h0 : w.cell? ⟨g, 0, none⟩ = some (.int .i64 a)) :
    Calls Tryd.prog 10 #[.slice (some ⟨g, 0, none⟩) 1 cap] w fun e w' => e = .returned (.bool false) ∧ w' = w := by
  have HC0 : Hid (w.cell? ⟨g, 0, none⟩ = some (.int .i64 a)) := h0
  clear h0
  go_enter Tryd.func10, Tryd.ntmps10
  go_wp2
  go_loop [3, 4] (fun l i => (i = .int .i64 0 ∧ l = .int .i64 2147483647) ∨ i = .int .i64 1) (fun _ i => 1 - (intOf i).toNat)
  case atStart => exact .inl ⟨rfl, rfl⟩
  case round =>
    rcases hrel with ⟨rfl, rfl⟩ | rfl
    · have h0 := HC0.out
      go_wp2
      go_round
      case rel => exact .inr rfl
      case measure => simp [intOf]
    · go_wp2
      go_ret
      exact ⟨rfl, rfl⟩
set_option maxHeartbeats 1000000 in
theorem beyond1_yes (a : Nat) (g cap : Nat) (w : World) (h : 2147483647 < a) (h0 : w.cell? ⟨g, 0, none⟩ = some (.int .i64 a)) :
    Calls Tryd.prog 10 #[.slice (some ⟨g, 0, none⟩) 1 cap] w fun e w' => e = .returned (.bool true) ∧ w' = w := by
  have HC0 : Hid (w.cell? ⟨g, 0, none⟩ = some (.int .i64 a)) := h0
  clear h0
  go_enter Tryd.func10, Tryd.ntmps10
  go_wp2
  go_loop [3, 4] (fun l i => i = .int .i64 0 ∧ l = .int .i64 2147483647) (fun _ i => 1 - (intOf i).toNat)
  case atStart => exact ⟨rfl, rfl⟩
  case round =>
    obtain ⟨rfl, rfl⟩ := hrel
    have h0 := HC0.out
    go_wp2
    go_ret
    exact ⟨rfl, rfl⟩
/-- a step, whatever it is -/
theorem rstep_any {w0 w : World} {X : Nat} {v : Value} {zs : List Nat} {L : List Ri} {A B : Value} {kind pos0 num : Int} {n : Nat} {pa : Option Addr} {pl pc : Nat} {s : ByteArray} (h : Rh w0 X v zs L (L.map ptrD) (L.map ptrE) A B w) (hL0 : 0 < L.length) (hL : L.length ≤ 20) (hnum : num ≤ 9223372036854775807) (ht : Tab w0) :
    Calls Tryd.prog 12 #[.pointer (some ⟨X, 0, none⟩), .agg #[.int .i64 kind, .int .i64 pos0, .int .u64 (n : Int), .int .i64 num, .slice pa pl pc, .string s]] w fun e w' => e = .returned (.bool true) ∧ ∃ (L' : List Ri) (A' B' : Value), Rh w0 X v zs L' (L'.map ptrD) (L'.map ptrE) A' B' w' ∧ L.length ≤ L'.length ∧ L'.length ≤ 20 := by
  by_cases hk : kind = 10
  · exact rstep_new h hL hk
  · exact rstep_take h hL0 hL hnum ht hk
/-- a shelf that has a reader -/
def Shf (w0 : World) (X : Nat) (v : Value) (zs : List Nat) (w : World) : Prop := ∃ (L : List Ri) (A B : Value), Rh w0 X v zs L (L.map ptrD) (L.map ptrE) A B w ∧ 0 < L.length ∧ L.length ≤ 20
theorem Shf.step {w0 w : World} {X : Nat} {v : Value} {zs : List Nat} {kind pos0 num : Int} {n : Nat} {pa : Option Addr} {pl pc : Nat} {s : ByteArray} (h : Shf w0 X v zs w) (hnum : num ≤ 9223372036854775807) (ht : Tab w0) :
    Calls Tryd.prog 12 #[.pointer (some ⟨X, 0, none⟩), .agg #[.int .i64 kind, .int .i64 pos0, .int .u64 (n : Int), .int .i64 num, .slice pa pl pc, .string s]] w fun e w' => e = .returned (.bool true) ∧ Shf w0 X v zs w' := by
  obtain ⟨L, A, B, h, h0, h1⟩ := h
  refine (rstep_any h h0 h1 hnum ht).mono ?_
  rintro e w' ⟨he, L', A', B', h', h2, h3⟩
  exact ⟨he, L', A', B', h', by omega, h3⟩
end Go.Proofs.YtceljnkbkpgdjaaDoor
/- WordReads: the law. Own work. -/
namespace Go.Proofs.YtceljnkbkpgdjaaDoor
open Go.RowKit Go.Shelf
set_option linter.unusedVariables false
set_option maxRecDepth 100000 in
set_option maxHeartbeats 4000000 in
theorem wreads_any {w : World} {bv sv : Value} {zs : List Nat} {os : List OpV} (hb : Sl w bv zs) (hbl : zs ≠ [] → ∀ k, bv.ownBlock = some k → k < w.heap.size) (hv : Scq w sv os) (ht : Tab w) :
    Calls Tryd.prog 4 #[bv, sv] w fun e w' => e = .returned (.bool true) ∧ Below w.heap.size w w' := by
  have HV := Lib.hid hv
  have HT := Lib.hid ht
  have HSb := Lib.hid hb
  have HBl : Hid (zs ≠ [] → ∀ k, bv.ownBlock = some k → k < w.heap.size) := hbl
  obtain ⟨ao, cap, rfl, hcap, hmax, hcells⟩ := hv
  unfold maxLen at hmax
  obtain ⟨n, hn⟩ : ∃ n, os.length = n := ⟨_, rfl⟩
  have HN := Lib.hid hn
  rw [hn] at hcap HV ⊢
  obtain ⟨q, hq⟩ : ∃ q, zs.length = q := ⟨_, rfl⟩
  have HQ := Lib.hid hq
  obtain ⟨va, vc, hv, hv1, hv2, _⟩ := id hb
  rw [hq] at hv hv1
  subst hv
  unfold maxLen at hv2
  clear hcells ht hb hbl hn hq
  by_cases h31 : 2147483647 < q
  · go_enter Tryd.func4, Tryd.ntmps4
    go_wp2_with fail
    refine (beyond1_yes q _ _ _ h31 (by simp)).mono ?_
    rintro e w1 ⟨rfl, rfl⟩
    go_wp2_with fail
    go_ret
    exact ⟨rfl, (Below.refl _ _).alloc (Nat.le_refl _) _⟩
  · go_enter Tryd.func4, Tryd.ntmps4
    go_wp2_with fail
    refine (beyond1_no q _ _ _ (by omega) (by simp)).mono ?_
    rintro e w1 ⟨rfl, hw1⟩
    have HB1 : Hid (Below w.heap.size w w1) := by rw [hw1]; exact (Below.refl _ _).alloc (Nat.le_refl _) _
    clear hw1
    have hsz : (w1.alloc (.cells #[.int .u8 1, .int .u8 2, .int .u8 3] 5)).heap.size = w1.heap.size + 1 := by simp
    have hrow : Row (w1.alloc (.cells #[.int .u8 1, .int .u8 2, .int .u8 3] 5)) w1.heap.size [1, 2, 3] := heap_alloc_new w1 _
    have hsl3 : Sl (w1.alloc (.cells #[.int .u8 1, .int .u8 2, .int .u8 3] 5)) (.slice (some ⟨w1.heap.size, 0, none⟩) 3 3) [1, 2, 3] := by
      have h9 := hrow.sl (by decide) 0 3 3 (by decide) (by decide) (by unfold maxLen; omega)
      exact h9
    have hs1 := Rh.start hsl3 (by decide) (fun _ k hk => by cases hk; rw [hsz]; exact Nat.lt_succ_self _)
    rw [hsz] at hs1
    have HT1 : Hid (Tab (w1.alloc (.cells #[.int .u8 1, .int .u8 2, .int .u8 3] 5))) := HT.out.below (HB1.out.alloc HB1.out.size _)
    have HO1 := Lib.hid (opens_any (L := []) hs1 (by decide))
    have HB3 : Hid (Below w.heap.size w (w1.alloc (.cells #[.int .u8 1, .int .u8 2, .int .u8 3] 5))) := HB1.out.alloc HB1.out.size _
    have HSt : Hid (∀ (k : Int) W, Shf (w1.alloc (.cells #[.int .u8 1, .int .u8 2, .int .u8 3] 5)) (w1.heap.size + 1) (.slice (some ⟨w1.heap.size, 0, none⟩) 3 3) [1, 2, 3] W → Calls Tryd.prog 12 #[.pointer (some ⟨w1.heap.size + 1, 0, none⟩), .agg #[.int .i64 k, .int .i64 0, .int .u64 0, .int .i64 0, .slice none 0 0, .string ⟨#[]⟩]] W fun e w' => e = .returned (.bool true) ∧ Shf (w1.alloc (.cells #[.int .u8 1, .int .u8 2, .int .u8 3] 5)) (w1.heap.size + 1) (.slice (some ⟨w1.heap.size, 0, none⟩) 3 3) [1, 2, 3] w') := fun k W h => h.step (n := 0) (by decide) HT1.out
    clear hsl3 hs1 hrow
    go_wp2_with fail
    refine HO1.out.mono ?_
    rintro e w2 ⟨rfl, x, A', B', h2⟩
    have HC2 := Lib.hid (HSt.out 2 w2 ⟨_, A', B', h2, by simp, by simp⟩)
    clear h2 HO1
    go_wp2_with fail
    refine HC2.out.mono ?_
    rintro e w3 ⟨rfl, h3⟩
    have HC3 := Lib.hid (HSt.out 1 w3 h3)
    clear h3 HC2
    go_wp2_with fail
    refine HC3.out.mono ?_
    rintro e w4 ⟨rfl, h4⟩
    have HC4 := Lib.hid (HSt.out 1 w4 h4)
    clear h4 HC3
    go_wp2_with fail
    refine HC4.out.mono ?_
    rintro e w5 ⟨rfl, h5⟩
    have HB5 : Hid (Below w.heap.size w w5) := by
      obtain ⟨_, _, _, hh, _⟩ := h5
      exact HB3.out.trans (hh.below.mono HB3.out.size)
    clear h5 HC4 HSt HB3 HT1 hsz
    have hs6 := Rh.start (HSb.out.below HB5.out) (by rw [HQ.out]; omega) (fun hz k hk => Nat.lt_of_lt_of_le (HBl.out hz k hk) HB5.out.size)
    have HT5 : Hid (Tab w5) := HT.out.below HB5.out
    have HO6 : Hid (Calls Tryd.prog 11 #[.pointer (some ⟨w5.heap.size, 0, none⟩)] (w5.alloc (.cells #[.slice va q vc, .slice none 0 0, .slice none 0 0, .slice none 0 0, .slice none 0 0, .int .i64 0, .bool false] 45)).drew fun e w' => e = .returned (.bool true) ∧ ∃ (x : Ri) (A' B' : Value), Rh w5 w5.heap.size (.slice va q vc) zs ([] ++ [x]) (([] ++ [x]).map ptrD) (([] ++ [x]).map ptrE) A' B' w') := opens_any (L := []) (hs6.of_below ((Below.refl _ _).drew)) (by decide)
    clear hs6
    go_wp2_with fail
    go_cut [57] (fun b wx => b = .bool false ∧ Hid (Shf w5 w5.heap.size (.slice va q vc) zs wx))
    case first =>
      go_region_with (first
        | (go_at_call 11; refine HO6.out.mono ?_; rintro e w6 ⟨rfl, x, A', B', h6⟩; obtain ⟨ga, oa, ca, gb, ob, cb, e1, ha, e2, hb, ea, eb⟩ := h6.look (i := 0) (by simp); subst e1; subst e2; simp only [List.nil_append, List.length_singleton, List.getElem_singleton, Nat.add_zero] at ha hb ea eb; obtain ⟨_, x1, x2, xl, _⟩ := h6.cells; simp only [List.nil_append, List.length_singleton] at x1 x2; have ox := h6.ok x (by simp); have HTd := Lib.hid (told_any ox.rd ox.rr ox.w0 ox.w1); have H6 := Lib.hid h6; clear ox h6)
        | (go_at_call 13; refine HTd.out.mono ?_; rintro e w7 ⟨rfl, hst⟩; have HZ : Hid (Shf w5 w5.heap.size (.slice va q vc) zs w7) := ⟨_, _, _, H6.out.of_below hst.2, by simp, by simp⟩; clear hst))
      all_goals
        go_wp2_with fail
        go_meet
        case rel => exact ⟨rfl, HZ⟩
    case rest =>
      obtain ⟨rfl, HS⟩ := hcut
      clear HO6
      go_wp2_with fail
      go_loopw [7] (fun iv wr => ∃ i : Nat, i ≤ n ∧ iv = .int .i64 (i : Int) ∧ Hid (Shf w5 w5.heap.size (.slice va q vc) zs wr)) (fun iv _ => n - (intOf iv).toNat)
      case atStart => exact ⟨0, by omega, rfl, HS⟩
      case round =>
        clear HS
        obtain ⟨i, hi, rfl, HSi⟩ := hrel
        by_cases hin : i < n
        · have j1 : (i : Int) < (n : Int) := by omega
          have jw : IntKind.i64.wrap ((i : Int) + 1) = ((i + 1 : Nat) : Int) := by rw [IntKind.wrap_i64]; omega
          have HBr : Hid (Below w.heap.size w wr) := by
            obtain ⟨_, _, _, hh, _⟩ := HSi.out
            exact HB5.out.trans (hh.below.mono HB5.out.size)
          obtain ⟨b, o, op, pa, pl, pc, rfl, hop, hnum, hpv, c0, c1, c2, c3, c4, c5⟩ := HV.out.at HBr.out i (by rw [HN.out]; exact hin)
          have HSt := Lib.hid (HSi.out.step (kind := op.kind) (pos0 := op.pos) (n := op.n) (pa := pa) (pl := pl) (pc := pc) (s := op.s) hnum HT5.out)
          clear hop hpv
          generalize op.kind = kind at *
          generalize op.pos = pos0 at *
          generalize op.n = nn at *
          generalize op.num = num at *
          generalize op.s = s at *
          go_wp2_with fail
          refine HSt.out.mono ?_
          rintro e w9 ⟨rfl, h9⟩
          have HS9 := Lib.hid h9
          clear h9 HSt
          go_wp2_with fail
          go_roundw
          case rel => exact ⟨i + 1, by omega, rfl, HS9⟩
          case measure => simp [intOf]; omega
        · have j1 : ¬ (i : Int) < (n : Int) := by omega
          obtain ⟨L, A, B, hh, _⟩ := HSi.out
          have HAp := Lib.hid hh.apart
          clear hh
          go_wp2_with fail
          refine HAp.out.mono ?_
          rintro e w9 ⟨rfl, h9⟩
          have HB9 : Hid (Below w.heap.size w w9) := HB5.out.trans (h9.mono HB5.out.size)
          clear h9
          go_wp2_with fail
          go_ret
          exact ⟨rfl, HB9.out⟩
end Go.Proofs.YtceljnkbkpgdjaaDoor
/- A script that is handed in, opened for the readers: the steps in memory. -/
namespace Go.Proofs.YtceljnkbkpgdjaaDoor
open Go.RowKit Go.ChangeShapes Go.WideShapes
theorem bounds_u64 {n : Int} (h : (Lit.int .u64 n).wf = true) : 0 ≤ n ∧ n < 18446744073709551616 := by
  simp [Lit.wf] at h
  have h1 : 0 ≤ n := h.1
  have h2 : n ≤ 18446744073709551615 := h.2
  omega
theorem num_le {n : Int} (h : (Lit.int .i64 n).wf = true) : n ≤ 9223372036854775807 := by
  simp [Lit.wf] at h
  have h2 : n ≤ 9223372036854775807 := h.2
  exact h2
theorem six_list {α : Type} {cs : List α} {x0 x1 x2 x3 x4 x5 : α} (h : cs.length = 6) (h0 : (cs.drop 0).take 1 = [x0]) (h1 : (cs.drop 1).take 1 = [x1]) (h2 : (cs.drop 2).take 1 = [x2]) (h3 : (cs.drop 3).take 1 = [x3]) (h4 : (cs.drop 4).take 1 = [x4]) (h5 : (cs.drop 5).take 1 = [x5]) : cs = [x0, x1, x2, x3, x4, x5] := by
  match cs, h with
  | [a, b, c, d, e, f], _ => simp_all
theorem some_of {α : Type} {xs : List α} {n i : Nat} (h : xs.length = n) (hi : i < n) : ∃ y, xs[i]? = some y := ⟨xs[i], List.getElem?_eq_getElem (by omega)⟩
theorem sl_lt {w : World} {v : Value} {zs : List Nat} (h : Sl w v zs) (hz : zs ≠ []) : ∀ k, v.ownBlock = some k → k < w.heap.size := by
  obtain ⟨ao, cap, rfl, h1, h2, h3, h4, h5⟩ := h
  obtain ⟨b, o, rfl, hc⟩ := h5 0 (List.length_pos_iff.2 hz)
  intro k hk
  cases hk
  exact World.block_lt_of_cell? w _ hc
theorem nil_sl (w : World) : Sl w (.slice none 0 0) [] := ⟨none, 0, rfl, Nat.le_refl _, Nat.zero_le _, by simp, by simp, fun i hi => absurd hi (by simp)⟩
section
variable {H : Type} {enc : TypeId × Value → H} {W : World} {base : Nat} {held : Bool}
/-- a slice of bytes that is read, as bytes in memory -/
theorem sl_opened {fuel : Nat} {cs : List Value} {x : DataW H × List MemPlace} (h : DataW.trod enc Tryd.prog W base (fun _ => true) held fuel 34 cs = some x) : ∃ v p, cs = [v] ∧ Sl W v p := by
  rcases open_ints Tryd.underlying34 Tryd.underlying5 (by kernel_rfl) h with ⟨rfl, _⟩ | ⟨a, l, c, zs, rfl, _, hl, hm, hz, _, hcell, hwz⟩
  · exact ⟨_, [], rfl, nil_sl W⟩
  · obtain ⟨p, _, hp⟩ := sl_of_row (w := W) (a := some a) (len := l) (cap := c) (zs := zs) (.inr ⟨_, rfl, hl, hm, by simpa using hz, hcell, hwz⟩)
    exact ⟨_, p, rfl, hp⟩
theorem op_opened {fuel : Nat} {cs : List Value} {x : DataW H × List MemPlace} (h : DataW.trod enc Tryd.prog W base (fun _ => true) held fuel 36 cs = some x) :
    ∃ op : OpV, cs = [.int .i64 op.kind, .int .i64 op.pos, .int .u64 (op.n : Int), .int .i64 op.num, op.pv, .string op.s] ∧ (∃ pa pl pc, op.pv = .slice pa pl pc) ∧ op.num ≤ 9223372036854775807 := by
  obtain ⟨xs, n, _, _, hl, hlen, hf⟩ := DataW.trod_struct Tryd.underlying36 h
  have hlen6 : xs.length = 6 := hlen
  obtain ⟨y0, e0⟩ := some_of hlen6 (show 0 < 6 by decide)
  obtain ⟨y1, e1⟩ := some_of hlen6 (show 1 < 6 by decide)
  obtain ⟨y2, e2⟩ := some_of hlen6 (show 2 < 6 by decide)
  obtain ⟨y3, e3⟩ := some_of hlen6 (show 3 < 6 by decide)
  obtain ⟨y4, e4⟩ := some_of hlen6 (show 4 < 6 by decide)
  obtain ⟨y5, e5⟩ := some_of hlen6 (show 5 < 6 by decide)
  obtain ⟨k, hk, _, _⟩ := DataW.trod_int Tryd.underlying3 ((hf 0 _ rfl).trans e0)
  obtain ⟨at_, ha, _, _⟩ := DataW.trod_int Tryd.underlying3 ((hf 1 _ rfl).trans e1)
  obtain ⟨nn, hn, _, hw⟩ := DataW.trod_int Tryd.underlying33 ((hf 2 _ rfl).trans e2)
  obtain ⟨nu, hu, _, hwu⟩ := DataW.trod_int Tryd.underlying3 ((hf 3 _ rfl).trans e3)
  obtain ⟨pv, ps, hp, hsl⟩ := sl_opened ((hf 4 _ rfl).trans e4)
  obtain ⟨s, hs, _, _⟩ := DataW.trod_string Tryd.underlying9 ((hf 5 _ rfl).trans e5)
  have c3 : Tryd.prog.cellsOf 3 = 1 := by kernel_rfl
  have c26 : Tryd.prog.cellsOf 33 = 1 := by kernel_rfl
  have c22 : Tryd.prog.cellsOf 34 = 1 := by kernel_rfl
  have c9 : Tryd.prog.cellsOf 9 = 1 := by kernel_rfl
  have c28 : Tryd.prog.cellsOf 36 = 6 := by kernel_rfl
  change List.take (Tryd.prog.cellsOf 3) (List.drop 0 cs) = _ at hk
  change List.take (Tryd.prog.cellsOf 3) (List.drop 1 cs) = _ at ha
  change List.take (Tryd.prog.cellsOf 33) (List.drop 2 cs) = _ at hn
  change List.take (Tryd.prog.cellsOf 3) (List.drop 3 cs) = _ at hu
  change List.take (Tryd.prog.cellsOf 34) (List.drop 4 cs) = _ at hp
  change List.take (Tryd.prog.cellsOf 9) (List.drop 5 cs) = _ at hs
  rw [c3] at hk ha hu
  rw [c26] at hn
  rw [c22] at hp
  rw [c9] at hs
  obtain ⟨b0, b1⟩ := bounds_u64 hw
  obtain ⟨m, rfl⟩ := Int.eq_ofNat_of_zero_le b0
  obtain ⟨va, vc, hva, _⟩ := hsl
  exact ⟨⟨k, at_, m, nu, pv, ps, s⟩, six_list (by rw [hl, c28]) hk ha hn hu hp hs, ⟨va, _, vc, hva⟩, num_le hwu⟩
/-- a script that is read, as steps in memory -/
theorem scq_opened {fuel : Nat} {cs : List Value} {x : DataW H × List MemPlace} (h : DataW.trod enc Tryd.prog W base (fun _ => true) held fuel 22 cs = some x) : ∃ v os, cs = [v] ∧ Scq W v os := by
  rcases Go.Deep.open_slice Tryd.underlying22 h with ⟨rfl, _⟩ | ⟨a, len, cap, m, n, D, Pl, rfl, _, hl, hm, hmm, _, hx⟩
  · exact ⟨_, [], rfl, none, 0, rfl, Nat.le_refl _, Nat.zero_le _, fun i hi => by simp at hi⟩
  · have c28 : Tryd.prog.cellsOf 36 = 6 := by kernel_rfl
    rw [c28] at hx
    have hmc : m = cap := by simpa using hmm
    haveI : Inhabited OpV := ⟨⟨0, 0, 0, 0, .slice none 0 0, [], ⟨#[]⟩⟩⟩
    obtain ⟨F, hF⟩ := Go.Deep.choose_lt (α := OpV) (n := len) (p := fun i op => (∃ pa pl pc, op.pv = .slice pa pl pc) ∧ op.num ≤ 9223372036854775807 ∧ ∀ j v, ([.int .i64 op.kind, .int .i64 op.pos, .int .u64 (op.n : Int), .int .i64 op.num, op.pv, .string op.s] : List Value)[j]? = some v → W.cell? ((a.add (i * 6)).add j) = some v) (fun i hi => by
      obtain ⟨cs', h1, h2⟩ := hx i (by omega)
      obtain ⟨op, rfl, hsl, hn⟩ := op_opened h2
      obtain ⟨_, _, hc⟩ := World.cells?_some h1
      refine ⟨op, hsl, hn, fun j v hj => ?_⟩
      rw [hc j (by have := (List.getElem?_eq_some_iff.1 hj).1; simpa using this)]
      exact hj)
    refine ⟨_, (List.range len).map F, rfl, some a, cap, by simp, by simpa using hl, hm, fun i hi => ?_⟩
    have hi' : i < len := by simpa using hi
    obtain ⟨hsl, hn, hc⟩ := hF i hi'
    have hget : ((List.range len).map F)[i] = F i := by simp
    rw [hget]
    obtain ⟨b, o, sp⟩ := a
    cases sp with
    | some q => exact absurd (World.cell?_spot ((hF 0 (by omega)).2.2 0 _ rfl)) (by simp [Addr.add])
    | none =>
      simp only [Go.WideShapes.add_plain] at hc
      exact ⟨b, o, rfl, hn, hsl, hc 0 _ rfl, hc 1 _ rfl, hc 2 _ rfl, hc 3 _ rfl, hc 4 _ rfl, hc 5 _ rfl⟩
end
end Go.Proofs.YtceljnkbkpgdjaaDoor
/- WordReads: its row and its card. -/
namespace Go.Proofs.YtceljnkbkpgdjaaDoor.wordReads
open Go.ChangeShapes Go.WideShapes Go.ChangeAt Go.RowKit
open Go.ChangeMaps (open_string shut_string)
set_option maxRecDepth 100000 in
theorem contract (H : Type) (enc : TypeId × Value → H) (W : World) (base : Nat) (args : Array Value) (ds gs : List (DataW H)) (before : List MemPlace)
    (hval : ∀ (j : Nat) t v, Tryd.f4.params[j]? = some t → args[j]? = some v → Value.okWide Tryd.prog W .any base t v)
    (hW : DataW.Whole enc Tryd.prog Tryd.f4.params.toList Rows.wordReadsSpec.vars false W args.toList ds gs before) (hL : laidMetH Tryd.prog Rows.wordReadsRow.laid W) :
    Calls Tryd.prog 4 args W fun e W' => ∃ v, e = .returned v ∧ Rows.wordReadsSpec.post enc Tryd.prog Tryd.f4 false true false false W args v W' := by
  have hW' := hW
  obtain ⟨p, q, hA0, hV, rfl, hfz, hnd⟩ := hW
  have hA : DataW.TrodAll enc Tryd.prog W 0 (fun _ => true) true Tryd.f4.params.toList args.toList ds p := hA0
  rw [Tryd.params4] at hA hval
  obtain ⟨v0, vs0, d0, ds0, p0, q0, hargs, rfl, rfl, h0, r0⟩ := trodAll_cons hA
  obtain ⟨v1, vs1, d1, ds1, p1, q1, rfl, rfl, rfl, h1, r1⟩ := trodAll_cons r0
  obtain ⟨rfl, rfl, rfl⟩ := trodAll_nil r1
  obtain rfl : args = #[v0, v1] := by cases args; simp_all
  obtain ⟨rfl, rfl⟩ := trodVars_none hV
  obtain ⟨a0, len0, cap0, rfl⟩ := okWide_slice Tryd.underlying34 (hval 0 34 v0 rfl rfl)
  have k0 := h0
  have lt0 : ∀ x ∈ p0, x.block < W.heap.size := by obtain ⟨m, hm⟩ := k0; exact DataW.trod_lt m _ _ _ hm
  obtain ⟨zs, hz⟩ : ∃ zs, Sl W (.slice a0 len0 cap0) zs := by
    obtain ⟨fuel, hf⟩ := h0
    obtain ⟨v, zs, e, hs⟩ := sl_opened hf
    simp [Value.cells] at e
    subst e
    exact ⟨zs, hs⟩
  obtain ⟨a1, len1, cap1, rfl⟩ := okWide_slice Tryd.underlying22 (hval 1 22 v1 rfl rfl)
  have k1 := h1
  have lt1 : ∀ x ∈ p1, x.block < W.heap.size := by obtain ⟨m, hm⟩ := k1; exact DataW.trod_lt m _ _ _ hm
  obtain ⟨os, ho⟩ : ∃ os, Scq W (.slice a1 len1 cap1) os := by
    obtain ⟨fuel, hf⟩ := h1
    obtain ⟨v, os, e, hs⟩ := scq_opened hf
    simp [Value.cells] at e
    subst e
    exact ⟨os, hs⟩
  clear hA0
  have ht := tab_of hL
  refine (wreads_any hz (fun h => sl_lt hz h) ho ht).mono fun e W' ⟨he, bel⟩ => ?_
  subst he
  exact ⟨_, rfl, _, _, _, [], _, [], hW', trodAll_mk1 (shut_bool Tryd.underlying4 _), (trodAll_cons_mk (Below.trod laidOut (by kernel_rfl) (of_decide_eq_true (by kernel_rfl)) k0 bel lt0) (trodAll_cons_mk (Below.trod laidOut (by kernel_rfl) (of_decide_eq_true (by kernel_rfl)) k1 bel lt1) trodAll_mk0)), rfl, bel.frame _, fun h => by cases h⟩

theorem laid_met (os : Os) : laidMet Tryd.prog Rows.wordReadsRow.laid ((laidWorld os).forCall (fun _ _ => 0) ⟨#[], #[.slice none 0 0, .slice none 0 0], []⟩).memory :=
  laidMet_of_run' 8 (by kernel_rfl) (by kernel_rfl)
theorem reads (os : Os) {H : Type} (enc : TypeId × Value → H) : ∃ places, DataW.whole enc Tryd.prog ((laidWorld os).forCall (fun _ _ => 0) ⟨#[], #[.slice none 0 0, .slice none 0 0], []⟩).memory Tryd.f4.params.toList Rows.wordReadsSpec.vars false (#[.slice none 0 0, .slice none 0 0] : Array Value).toList 8 = some ([.nil, .nil], [], places) :=
  ⟨[], by kernel_rfl⟩
set_option maxRecDepth 100000 in
theorem lifted (os : Os) (started : os.Started) (H : Type) (enc : TypeId × Value → H) (F : Stop.Interp) :
    ReturnsInHanded {} Tryd.checked os 4 .any ((OpenSpec.ofChange Rows.wordReadsSpec).preRow enc Tryd.prog Tryd.f4 Rows.wordReadsRow.domain false Rows.wordReadsRow.laid) (((OpenSpec.ofChange Rows.wordReadsSpec).at F).post enc Tryd.prog Tryd.f4 false true false false) := by
  obtain ⟨places, hx⟩ := reads os enc
  refine returnsInHanded_of_row (C := Tryd.checked) (s := OpenSpec.ofChange Rows.wordReadsSpec) ownKnobs started (by kernel_rfl) Tryd.func4
    (witness_row_at (enc := enc) (C := Tryd.checked) false (laidWorld os) #[.slice none 0 0, .slice none 0 0] rfl (by kernel_rfl) (by kernel_rfl) (by kernel_rfl)
      (OpenSpec.preRow_of_cond 8 hx (by kernel_rfl) (fun k hk => by cases hk) (by kernel_rfl) (laid_met os))) ?_
  intro W base args ds gs before hval hW _ _ _ hL _ _
  exact contract H enc W base args ds gs before hval hW hL
theorem said : Rows.WordReadsSaid :=
  OpenClaim.holds_of_cond 4 Tryd.f4 rfl rfl rfl rfl rfl rfl rfl ⟨rfl, rfl, rfl, rfl, rfl⟩ rfl rfl rfl rfl rfl (by kernel_rfl) Tryd.func4 (by kernel_rfl)
    (of_decide_eq_true (by kernel_rfl)) (by unfold Func.isWrapper; first | (rw [if_pos (by decide +kernel)]; kernel_rfl) | (rw [if_neg (by decide +kernel)]; exact ⟨rfl, rfl⟩))
    (fun os started H enc _ F => by rw [OpenClaim.pre_eq_preRow]; exact lifted os started H enc F)
theorem plain (f : FuncId) (fn : Func) (hf : Tryd.pinned.checked.prog.funcNamed "bulkhead/bulkheadlaw1.WordReads" = some f) (hfn : Tryd.pinned.checked.prog.funcs[f]? = some fn) :
    false = Tryd.pinned.checked.prog.looks [] ∧ ∀ (j : Nat) t, fn.params[j]? = some t → Tryd.pinned.checked.prog.wantsStandIn t = false := by
  obtain rfl : f = 4 := Option.some.inj ((show Tryd.prog.funcNamed "bulkhead/bulkheadlaw1.WordReads" = some 4 by kernel_rfl).symm.trans hf) |>.symm
  obtain rfl : fn = Tryd.f4 := (Option.some.inj (Tryd.func4.symm.trans hfn)).symm
  refine ⟨by kernel_rfl, fun j t ht => ?_⟩
  have hall : Tryd.f4.params.all (fun t => Tryd.prog.wantsStandIn t == false) = true := by kernel_rfl
  have := Array.all_eq_true_iff_forall_mem.1 hall t (Array.mem_of_getElem? ht)
  exact beq_iff_eq.1 this
theorem card : Rows.WordReadsCardSaid :=
  Claim7.holds_tied_plain_at .later [] _ _ _ _ said (fun _ h => by cases h) (by kernel_rfl) (fun _ h => by cases h) wordReads_row_tie rfl ⟨rfl, rfl⟩ (by kernel_rfl) rfl plain (by kernel_rfl)
#print axioms card
end Go.Proofs.YtceljnkbkpgdjaaDoor.wordReads
