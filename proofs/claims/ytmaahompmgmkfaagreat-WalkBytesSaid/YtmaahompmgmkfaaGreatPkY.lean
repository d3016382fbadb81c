import Derived.Test.YtmaahompmgmkfaaGreatBmOpen
import Derived.Test.YtmaahompmgmkfaaGreatPkX
import Derived.BigRegion
import Derived.BigQuiet
import Derived.Test.YtmaahompmgmkfaaGreatRows
import Derived.WalkKit
import Derived.ProofKit
import Derived.OpenShut
import Derived.ShutString
import Derived.ChangeOld
import Derived.Below
/- The words that come in. Own work. -/
namespace Go.Proofs.YtmaahompmgmkfaaGreat
open Go.RowKit Go.ChangeShapes Go.WideShapes Go.Proofs.YtmaahompmgmkfaaGreat.Sp
section
variable {H : Type} {enc : TypeId × Value → H} {W : World} {base : Nat} {held : Bool}
set_option maxRecDepth 100000 in
theorem wslice_place {r : Reach} {b : Nat} {a : Addr} {len cap : Nat} (h : Cell.okWide Tryz.prog W r b 25 (.slice (some a) len cap)) : a.spot = none ∧ a.block < W.heap.size := by
  simp only [Cell.okWide, Cell.ok, Tryz.underlying25, World.has] at h
  obtain ⟨_, _, _, h1, row, cells, h2, _⟩ := h
  refine ⟨h1, ?_⟩
  unfold World.shape? at h2
  by_cases hlt : a.block < W.heap.size
  · exact hlt
  · rw [Array.getElem?_eq_none (by omega)] at h2
    simp at h2
theorem wd1_opened {fuel : Nat} {cs : List Value} {x : DataW H × List MemPlace} (h : DataW.trod enc Tryz.prog W base (fun _ => true) held fuel 58 cs = some x) :
    ∃ y : Sp, cs = [.int .u64 y.1, .int .u64 y.2] ∧ 0 ≤ y.1 ∧ y.1 ≤ 18446744073709551615 ∧ 0 ≤ y.2 ∧ y.2 ≤ 18446744073709551615 := by
  obtain ⟨xs, n, _, _, hl, hlen, hf⟩ := DataW.trod_struct Tryz.underlying58 h
  have hlen2 : xs.length = 2 := hlen
  obtain ⟨y0, e0⟩ : ∃ y, xs[0]? = some y := ⟨xs[0], List.getElem?_eq_getElem (by omega)⟩
  obtain ⟨y1, e1⟩ : ∃ y, xs[1]? = some y := ⟨xs[1], List.getElem?_eq_getElem (by omega)⟩
  obtain ⟨a, ha, _, wa⟩ := DataW.trod_int Tryz.underlying26 ((hf 0 _ rfl).trans e0)
  obtain ⟨b, hb, _, wb⟩ := DataW.trod_int Tryz.underlying26 ((hf 1 _ rfl).trans e1)
  have c6 : Tryz.prog.cellsOf 26 = 1 := by kernel_rfl
  have cS : Tryz.prog.cellsOf 58 = 2 := by kernel_rfl
  change List.take (Tryz.prog.cellsOf 26) (List.drop 0 cs) = _ at ha
  change List.take (Tryz.prog.cellsOf 26) (List.drop 1 cs) = _ at hb
  rw [c6] at ha hb
  have ba := u64_in wa
  have bb := u64_in wb
  exact ⟨(a, b), two_list (by rw [hl, cS]) ha hb, ba.1, ba.2, bb.1, bb.2⟩
set_option maxRecDepth 100000 in
theorem wds_opened {fuel : Nat} {cs : List Value} {x : DataW H × List MemPlace} (hok : ∀ v, cs = [v] → ∃ (r : Reach) (b : Nat), Cell.okWide Tryz.prog W r b 25 v) (h : DataW.trod enc Tryz.prog W base (fun _ => true) held fuel 25 cs = some x) : ∃ v xs, cs = [v] ∧ U64.SV W v xs ∧ Fits 18446744073709551615 xs ∧ (xs.length = 0 ∨ ∃ el sp, x.1 = .slice el sp ∧ xs.length = el.length) := by
  rcases Go.Deep.open_slice Tryz.underlying25 h with ⟨rfl, _⟩ | ⟨a, len, cap, m, n, D, Pl, rfl, _, hl, hm, hmm, rfl, hx⟩
  · exact ⟨_, [], rfl, U64.SV.nil W, fun _ h => (by cases h), .inl rfl⟩
  · have cS : Tryz.prog.cellsOf 58 = 2 := by kernel_rfl
    rw [cS] at hx
    have hmc : m = cap := by simpa using hmm
    obtain ⟨r, b0, hc0⟩ := hok _ rfl
    obtain ⟨hsp, hlt⟩ := wslice_place hc0
    haveI : Inhabited Sp := ⟨(0, 0)⟩
    obtain ⟨F, hF⟩ := Go.Deep.choose_lt (α := Sp) (n := len) (p := fun i y => (0 ≤ y.1 ∧ y.1 ≤ 18446744073709551615 ∧ 0 ≤ y.2 ∧ y.2 ≤ 18446744073709551615) ∧ ∀ j v, ([.int .u64 y.1, .int .u64 y.2] : List Value)[j]? = some v → W.cell? ((a.add (i * 2)).add j) = some v) (fun i hi => by
      obtain ⟨cs', h1, h2⟩ := hx i (by omega)
      obtain ⟨y, rfl, hb⟩ := wd1_opened h2
      obtain ⟨_, _, hc⟩ := World.cells?_some h1
      refine ⟨y, hb, fun j v hj => ?_⟩
      rw [hc j (by have := (List.getElem?_eq_some_iff.1 hj).1; simpa using this)]
      exact hj)
    obtain ⟨b, o, sp⟩ := a
    simp only at hsp hlt
    subst hsp
    refine ⟨_, (List.range len).map F, rfl, ⟨some ⟨b, o, none⟩, cap, by simp, by simpa using hl, hm, fun e => (by cases e), fun a e => (by cases e; exact ⟨b, o, rfl, hlt⟩), fun i hi => ?_⟩, fun y hy => ?_, .inr ⟨_, _, rfl, by simp⟩⟩
    · have hi' : i < len := by simpa using hi
      obtain ⟨_, hc⟩ := hF i hi'
      have hget : ((List.range len).map F)[i] = F i := by simp
      rw [hget]
      simp only [Go.WideShapes.add_plain] at hc
      exact ⟨b, o, rfl, hc 0 _ rfl, hc 1 _ rfl⟩
    · obtain ⟨i, hi, rfl⟩ := List.mem_map.1 hy
      exact (hF i (by simpa using hi)).1
end
end Go.Proofs.YtmaahompmgmkfaaGreat
/- The walk of WalkBytes. Own work. -/
namespace Go.Proofs.YtmaahompmgmkfaaGreat
open Go.RowKit Go.Maps Go.Proofs.YtmaahompmgmkfaaGreat.Sp Wk
/-- where the law stands behind grounds -/
def BSt (w2 w3 W : World) (m B : Nat) (V : Value × Value × Value) (T : Nat → Option Nat) (M : Nat → Nat) (rs ds : List Sp) (k : Nat) : Prop := Mx W m B V T M rs ds k ∧ Below w2.heap.size w2 W ∧ w3.heap.size ≤ W.heap.size
theorem BSt.keeps {w2 w3 W W' : World} {m B : Nat} {V : Value × Value × Value} {T : Nat → Option Nat} {M : Nat → Nat} {rs ds : List Sp} {k k' : Nat} (h : BSt w2 w3 W m B V T M rs ds k) (hM : Mx W' m B V T M rs ds k') (hk : Keeps (fun j => j = m) W W') (hm : w2.heap.size ≤ m) : BSt w2 w3 W' m B V T M rs ds k' :=
  ⟨hM, below_keeps h.2.1 hk (fun j e => by have e : j = m := e; omega), Nat.le_trans h.2.2 hk.size⟩
theorem BSt.below {w2 w3 W W' : World} {m B : Nat} {V : Value × Value × Value} {T : Nat → Option Nat} {M : Nat → Nat} {rs ds : List Sp} {k : Nat} (h : BSt w2 w3 W m B V T M rs ds k) (hb : Below W.heap.size W W') : BSt w2 w3 W' m B V T M rs ds k :=
  ⟨h.1.below hb, h.2.1.trans (hb.mono h.2.1.size), Nat.le_trans h.2.2 hb.size⟩
theorem BSt.alloc {w2 w3 W : World} {m B : Nat} {V : Value × Value × Value} {T : Nat → Option Nat} {M : Nat → Nat} {rs ds : List Sp} {k : Nat} (h : BSt w2 w3 W m B V T M rs ds k) (o : Obj) : BSt w2 w3 (W.alloc o) m B V T M rs ds k := h.below ((Below.refl _ _).alloc (Nat.le_refl _) o)
theorem BSt.two {w2 w3 W : World} {m B : Nat} {V : Value × Value × Value} {T : Nat → Option Nat} {M : Nat → Nat} {rs ds : List Sp} {k : Nat} (h : BSt w2 w3 W m B V T M rs ds k) (hmi : ∀ j, Mine m B V T j → j < w3.heap.size) (h23 : w2.heap.size ≤ w3.heap.size) {b : Nat} (hb : w3.heap.size ≤ b) (u y : Value) : BSt w2 w3 ((W.setCell ⟨b, 0, none⟩ u).setCell ⟨b, 1, none⟩ y) m B V T M rs ds k := by
  have hk := Keeps.two W b u y
  exact ⟨h.1.keeps hk (fun j hj e => by have := hmi j hj; have e : j = b := e; omega), below_keeps h.2.1 hk (fun j e => by have e : j = b := e; omega), Nat.le_trans h.2.2 hk.size⟩
theorem own_cells {w : World} {base : Nat} {a : Option Addr} {n c : Nat} {L : List Nat} (h : Own w base (.slice a n c) L) : (∀ i, i < n → ∃ g, a = some ⟨g, 0, none⟩ ∧ g < w.heap.size ∧ w.cell? ⟨g, i, none⟩ = some (.int .u8 ((L.getD i 0 : Nat) : Int))) ∧ n ≤ c ∧ c ≤ 9223372036854775807 := by
  rcases h.2 with ⟨e, h0⟩ | ⟨g, cap, cur, e, hb, hg, h1, h2, _⟩
  · cases e
    exact ⟨fun i hi => by omega, by omega, by omega⟩
  · cases e
    unfold maxLen at h2
    exact ⟨fun i hi => ⟨g, rfl, (Array.getElem?_eq_some_iff.1 hg).1, h.cell i hi⟩, h1, by omega⟩
theorem own_thawed {w : World} {base g n c : Nat} {L : List Nat} (h : Own w base (.slice (some ⟨g, 0, none⟩) n c) L) (i : Nat) : w.frozen? ⟨g, i, none⟩ = false := by
  rcases h.2 with ⟨e, h0⟩ | ⟨g', cap, cur, e, hb, hg, _⟩
  · cases e
  · cases e
    simp [World.frozen?, hg]
theorem reach_on {LL : List Sp} {M : Nat → Nat} {t v : Nat} {acc : Int} {k : Nat} (h : reachF LL M t v acc k = none) : ∀ j, j < k → On LL ((ad LL M t v acc j).1 : Int) := by
  have h0 : ∀ j, j < k → (ad LL M t v acc j).2 = 0 := by
    intro j
    induction j using Nat.strongRecOn with
    | ind j ih =>
      intro hj
      refine Classical.byContradiction fun hne => ?_
      have h2 := reach_tr (fun i hi => ih i hi (by omega)) hne hj
      rw [h] at h2
      cases h2
  intro j
  induction j using Nat.strongRecOn with
  | ind j ih =>
    intro hj
    refine Classical.byContradiction fun hne => ?_
    have h2 := reach_off h0 (fun i hi => ih i hi (by omega)) hne hj
    rw [h] at h2
    cases h2
/-- where the law's last loops stand -/
def LI (w2 W : World) (m B : Nat) (V : Value × Value × Value) (T : Nat → Option Nat) (M : Nat → Nat) (rs ds : List Sp) (k bw : Nat) (vw : Value) (L : List Nat) (ba : Nat) (va : Value) (xs : List Nat) (vl : Value) : Prop :=
  Own W bw vw L ∧ OwnA W ba va xs ∧ U64.SV W vl (rs ++ ds) ∧ Mx W m B V T M rs ds k ∧ Below w2.heap.size w2 W
theorem LI.below {w2 W W' : World} {m B : Nat} {V : Value × Value × Value} {T : Nat → Option Nat} {M : Nat → Nat} {rs ds : List Sp} {k bw : Nat} {vw : Value} {L : List Nat} {ba : Nat} {va : Value} {xs : List Nat} {vl : Value} (h : LI w2 W m B V T M rs ds k bw vw L ba va xs vl) (hb : Below W.heap.size W W') : LI w2 W' m B V T M rs ds k bw vw L ba va xs vl :=
  ⟨h.1.below hb, h.2.1.below hb, h.2.2.1.below hb (Nat.le_refl _), h.2.2.2.1.below hb, h.2.2.2.2.trans (hb.mono h.2.2.2.2.size)⟩
/-- the row that is written lies apart -/
def Dj (w2 : World) (m B : Nat) (V : Value × Value × Value) (T : Nat → Option Nat) (vw va vl : Value) : Prop := ∀ g, vw.ownBlock = some g → w2.heap.size ≤ g ∧ (∀ j, va.ownBlock = some j → j ≠ g) ∧ (∀ j, vl.ownBlock = some j → j ≠ g) ∧ ∀ j, Mine m B V T j → j ≠ g
theorem LI.set {w2 W : World} {m B : Nat} {V : Value × Value × Value} {T : Nat → Option Nat} {M : Nat → Nat} {rs ds : List Sp} {k bw g n c : Nat} {L : List Nat} {ba : Nat} {va : Value} {xs : List Nat} {vl : Value} (h : LI w2 W m B V T M rs ds k bw (.slice (some ⟨g, 0, none⟩) n c) L ba va xs vl) (hd : Dj w2 m B V T (.slice (some ⟨g, 0, none⟩) n c) va vl) (i y : Nat) : LI w2 (W.setCell ⟨g, i, none⟩ (.int .u8 (y : Int))) m B V T M rs ds k bw (.slice (some ⟨g, 0, none⟩) n c) (L.set i y) ba va xs vl := by
  obtain ⟨d1, d2, d3, d4⟩ := hd g rfl
  have hk := Keeps.setCell W g i (.int .u8 (y : Int))
  exact ⟨h.1.set i y, h.2.1.keeps hk (fun j e e' => d2 j e e'), h.2.2.1.keeps hk (fun j e e' => d3 j e e'), h.2.2.2.1.keeps hk (fun j e e' => d4 j e e'), below_keeps h.2.2.2.2 hk (fun j e => by have e : j = g := e; omega)⟩
set_option maxRecDepth 100000 in
set_option maxHeartbeats 8000000 in
theorem bytes_walk {w : World} {vr vd vw : Value} {rs ds ws : List Sp} {root virt val : Nat} {n : Int} (hr : U64.SV w vr rs) (hd : U64.SV w vd ds) (fr : Fits 18446744073709551615 rs) (fd : Fits 18446744073709551615 ds) (hw : U64.SV w vw ws) (fw : Fits 18446744073709551615 ws) (hlw : ws.length ≤ 1152921504606846976) (hroot : root ≤ 18446744073709551615) (hval : val ≤ 18446744073709551615) :
    Calls Tryz.prog 3 #[.agg #[vr, vd], vw, .int .u64 (root : Int), .int .u64 (virt : Int), .int .i64 n, .int .u64 (val : Int)] w fun e w' => e = .returned (.bool true) ∧ Below w.heap.size w w' := by
  have HB0 : Hid (Below w.heap.size w (w.alloc (Obj.cells #[vr, vd] 24))) := (Below.refl _ _).alloc (Nat.le_refl _) _
  have HR0 : Hid (U64.SV w vr rs) := hr
  have HD0 : Hid (U64.SV w vd ds) := hd
  have HX0 : Hid ((w.alloc (Obj.cells #[vr, vd] 24)).cell? ⟨w.heap.size, 0, none⟩ = some vr ∧ (w.alloc (Obj.cells #[vr, vd] 24)).cell? ⟨w.heap.size, 1, none⟩ = some vd) := U64.new2 rfl vr vd _
  have HSm : Hid (∀ W, Below w.heap.size w W → Calls Tryz.prog 5 #[.agg #[vr, vd]] W fun e w' => e = .returned (.bool (smallB rs ds)) ∧ Below W.heap.size W w') := fun W hW => small_any (hr.below hW (Nat.le_refl _)) (hd.below hW (Nat.le_refl _)) fr fd
  have HGr : Hid (refW rs ds = 0 → ∀ W, Below w.heap.size w W → Calls Tryz.prog 6 #[.agg #[vr, vd], vw] W fun e w' => ∃ m v base B V, e = .returned (.tuple #[.pointer (some ⟨m, 0, none⟩), .pointer (some ⟨v, 0, none⟩)]) ∧ Hid (GI W w' base m B V v vr vd rs ds ws.length ws.length)) := fun h0 W hW => grounds_any (hr.below hW (Nat.le_refl _)) (hd.below hW (Nat.le_refl _)) fr fd h0 (hw.below hW (Nat.le_refl _)) fw hlw
  have HSn : Hid (refW rs ds = 0 → (∀ x ∈ rs ++ ds, 0 ≤ x.1 ∧ 0 < x.2 ∧ x.1 + x.2 ≤ 4294967296) ∧ rs.length ≤ 8 ∧ ds.length ≤ 32) := fun h => refW_sane fr fd h
  clear hr hd fr fd hw fw
  go_enter Tryz.func3, Tryz.ntmps3
  go_wp2_with fail
  refine (awake_any _).mono ?_
  rintro e w1 ⟨rfl, hb1⟩
  have HB1 : Hid (Below w.heap.size w w1) := HB0.out.trans (hb1.mono HB0.out.size)
  have y0 : w1.cell? ⟨w.heap.size, 0, none⟩ = some vr := (hb1.cell (p := ⟨w.heap.size, 0, none⟩) (by simp)).trans HX0.out.1
  have y1 : w1.cell? ⟨w.heap.size, 1, none⟩ = some vd := (hb1.cell (p := ⟨w.heap.size, 1, none⟩) (by simp)).trans HX0.out.2
  have hl1 : w.heap.size < w1.heap.size := by have := hb1.size; simp at this; omega
  clear HX0 hb1 HB0
  go_wp2_with fail
  refine (HSm.out w1 HB1.out).mono ?_
  rintro e w2 ⟨rfl, hb2⟩
  have HB2 : Hid (Below w.heap.size w w2) := HB1.out.trans (hb2.mono HB1.out.size)
  have z0 : w2.cell? ⟨w.heap.size, 0, none⟩ = some vr := (hb2.cell (p := ⟨w.heap.size, 0, none⟩) hl1).trans y0
  have z1 : w2.cell? ⟨w.heap.size, 1, none⟩ = some vd := (hb2.cell (p := ⟨w.heap.size, 1, none⟩) hl1).trans y1
  have hl2 : w.heap.size < w2.heap.size := Nat.lt_of_lt_of_le hl1 hb2.size
  clear y0 y1 hl1 HB1 HSm hb2
  by_cases hsm : smallB rs ds = true
  · have hsm2 := of_decide_eq_true hsm
    have HSn2 := Lib.hid (HSn.out hsm2.1)
    have HSz := Lib.hid hsm2.2
    have HGr2 := Lib.hid (HGr.out hsm2.1 w2 HB2.out)
    clear hsm2 HSn HGr
    go_wp2_with fail
    refine HGr2.out.mono ?_
    rintro e w3 ⟨m, v, base, B, V, rfl, HG3⟩
    obtain ⟨T, M, gM, gMine, _, _, _, gB, _⟩ := HG3.out
    have HM3 := Lib.hid gM
    have hmw : w2.heap.size ≤ m := gMine m (.inl rfl)
    have HMi := Lib.hid gMine
    have HB3 : Hid (Below w.heap.size w w3) := HB2.out.trans (gB.mono HB2.out.size)
    have HB32 := Lib.hid gB
    have Hz := Lib.hid (And.intro z0 z1)
    have z0' : w3.cell? ⟨w.heap.size, 0, none⟩ = some vr := (gB.cell (p := ⟨w.heap.size, 0, none⟩) hl2).trans z0
    have z1' : w3.cell? ⟨w.heap.size, 1, none⟩ = some vd := (gB.cell (p := ⟨w.heap.size, 1, none⟩) hl2).trans z1
    have hm3 := HM3.out.lt
    obtain ⟨N, hN⟩ : ∃ N, N = ws.length := ⟨_, rfl⟩
    rw [← hN] at HM3 hlw
    clear hN gM gMine gB HG3 HGr2 z0 z1
    go_wp2_with fail
    refine (within3_any _).mono ?_
    rintro e w4 ⟨q, rfl, hq, rfl⟩
    obtain ⟨k, hk, hck⟩ := four_cells w3 q hq
    have HK := Lib.hid hk
    have h23 : w2.heap.size ≤ w3.heap.size := by omega
    have HLo : Hid (∀ j, Mine m B V T j → j < w3.heap.size) := fun j hj => HM3.out.mine_lt hj
    have HS4 : Hid (BSt w2 w3 (w3.alloc (Obj.cells #[.int .i64 1, .int .i64 2, .int .i64 4, .int .i64 8] 3)) m B V T M rs ds N) := BSt.alloc ⟨HM3.out, HB32.out, Nat.le_refl _⟩ _
    have HSp : Hid (∀ W s acc, s ≤ 2000 → BSt w2 w3 W m B V T M rs ds (N + s) → Calls Tryz.prog 8 #[.pointer (some ⟨m, 0, none⟩), .int .u64 (root : Int), .int .u64 (virt : Int), .int .i64 (k : Int), .int .i64 acc] W fun e w' => e = .returned (.tuple #[.int .u64 ((takeV (rs ++ ds) M root virt acc k).1 : Int), .agg #[.int .i64 (takeV (rs ++ ds) M root virt acc k).2.1, .int .u64 ((takeV (rs ++ ds) M root virt acc k).2.2 : Int)]]) ∧ Hid (BSt w2 w3 w' m B V T M rs ds (N + s + 32)) ∧ Hid (Keeps (fun j => j = m) W w')) := fun W s acc hs hW => by
      refine (split_any hW.1 hroot (by omega) HK.out).mono ?_
      rintro e w' ⟨rfl, h1, h2⟩
      exact ⟨rfl, hW.keeps h1.out h2.out hmw, h2⟩
    have HLd : Hid (∀ W s, s ≤ 2000 → BSt w2 w3 W m B V T M rs ds (N + s) → Calls Tryz.prog 9 #[.iface 29 (.pointer (some ⟨m, 0, none⟩)), .int .u64 (root : Int), .int .u64 (virt : Int), .int .i64 (k : Int)] W fun e w' => e = .returned (.tuple #[.int .u64 ((takeV (rs ++ ds) M root virt 1 k).1 : Int), .agg #[.int .i64 (takeV (rs ++ ds) M root virt 1 k).2.1, .int .u64 ((takeV (rs ++ ds) M root virt 1 k).2.2 : Int)]]) ∧ Hid (BSt w2 w3 w' m B V T M rs ds (N + s + 32)) ∧ Hid (Keeps (fun j => j = m) W w')) := fun W s hs hW => by
      refine (wload_any hW.1 hroot (by omega) HK.out).mono ?_
      rintro e w' ⟨rfl, h1, h2⟩
      exact ⟨rfl, hW.keeps h1.out h2.out hmw, h2⟩
    have HFt : Hid (∀ W s, s ≤ 2000 → BSt w2 w3 W m B V T M rs ds (N + s) → Calls Tryz.prog 10 #[.iface 29 (.pointer (some ⟨m, 0, none⟩)), .int .u64 (root : Int), .int .u64 (virt : Int), .int .i64 (k : Int)] W fun e w' => e = .returned (.tuple #[.int .u64 ((takeV (rs ++ ds) M root virt 3 k).1 : Int), .agg #[.int .i64 (takeV (rs ++ ds) M root virt 3 k).2.1, .int .u64 ((takeV (rs ++ ds) M root virt 3 k).2.2 : Int)]]) ∧ Hid (BSt w2 w3 w' m B V T M rs ds (N + s + 32)) ∧ Hid (Keeps (fun j => j = m) W w')) := fun W s hs hW => by
      refine (wfetch_any hW.1 hroot (by omega) HK.out).mono ?_
      rintro e w' ⟨rfl, h1, h2⟩
      exact ⟨rfl, hW.keeps h1.out h2.out hmw, h2⟩
    clear hk HB3
    have hnf : ∀ W a b, (binOp .neq 37 (.agg #[.int .i64 a, .int .u64 b]) (.agg #[.int .i64 a, .int .u64 b])).run Tryz.prog W = .ok (.bool false) W := neqF
    have hge : ∀ W x y a b c d, (eqGuard .neq 37 x y (.agg #[.int .i64 a, .int .u64 b]) (.agg #[.int .i64 c, .int .u64 d])).run Tryz.prog W = .ok () W := fun W x y a b c d => run_eqGuard_agg W _ _ _ _ _ _ guardF
    go_wp2_with fail
    refine (HSp.out _ 0 1 (by omega) HS4.out).mono ?_
    rintro e w5 ⟨rfl, HS5, HK5⟩
    generalize hr1 : takeV (rs ++ ds) M root virt 1 k = r1 at *
    obtain ⟨a1, b1, c1⟩ := r1
    simp only at HLd ⊢
    clear hr1 HS4 HK5 z0' z1' hck
    have HF5 := Lib.hid (BoxF.new w5 b1 (c1 : Int))
    have HS6 := Lib.hid (HS5.out.alloc (Obj.cells #[.int .i64 b1, .int .u64 (c1 : Int)] 37))
    have h35 : w3.heap.size ≤ w5.heap.size := HS5.out.2.2
    clear HS5
    go_wp2_with fail
    refine (HLd.out _ 32 (by omega) HS6.out).mono ?_
    rintro e w7 ⟨rfl, HS7, HK7⟩
    have h57 : w5.heap.size < w7.heap.size := (HF5.out.keeps HK7.out (show ¬ w5.heap.size = m by omega)).lt
    have HF7 : Hid (BoxF w7 w5.heap.size b1 c1) := HF5.out.keeps HK7.out (show ¬ w5.heap.size = m by omega)
    have HF8 : Hid (BoxF (w7.alloc (Obj.cells #[.int .i64 b1, .int .u64 (c1 : Int)] 37)) w5.heap.size b1 c1) := HF7.out.below ((Below.refl _ _).alloc (Nat.le_refl _) _)
    have HG8 := Lib.hid (BoxF.new w7 b1 (c1 : Int))
    have HS8 := Lib.hid (HS7.out.alloc (Obj.cells #[.int .i64 b1, .int .u64 (c1 : Int)] 37))
    obtain ⟨p0, p1, _, _⟩ := HF8.out.cells
    obtain ⟨q0, q1, _, _⟩ := HG8.out.cells
    clear HS7 HK7 HF7 HS6 HF5 HLd
    go_wp2_with fail
    refine (HSp.out _ 64 3 (by omega) HS8.out).mono ?_
    rintro e w9 ⟨rfl, HS9, HK9⟩
    generalize hr3 : takeV (rs ++ ds) M root virt 3 k = r3 at *
    obtain ⟨a3, b3, c3⟩ := r3
    simp only at HFt ⊢
    have HF9 : Hid (BoxF w9 w5.heap.size b1 c1) := HF8.out.keeps HK9.out (show ¬ w5.heap.size = m by omega)
    have HG9 : Hid (BoxF w9 w7.heap.size b1 c1) := HG8.out.keeps HK9.out (show ¬ w7.heap.size = m by omega)
    have h79 : w7.heap.size < w9.heap.size := HG9.out.lt
    have h579 : w5.heap.size ≠ w7.heap.size := by omega
    clear p0 p1 q0 q1 hr3 HF8 HG8 HK9 HS8
    obtain ⟨_, _, g0, g1⟩ := HF9.out.cells
    have HFa := Lib.hid (HF9.out.set b3 (c3 : Int))
    have HGa : Hid (BoxF ((w9.setCell ⟨w5.heap.size, 0, none⟩ (.int .i64 b3)).setCell ⟨w5.heap.size, 1, none⟩ (.int .u64 (c3 : Int))) w7.heap.size b1 c1) := HG9.out.keeps (Keeps.two w9 _ _ _) (fun e => h579 (show w7.heap.size = w5.heap.size from e).symm)
    have HSa : Hid (BSt w2 w3 ((w9.setCell ⟨w5.heap.size, 0, none⟩ (.int .i64 b3)).setCell ⟨w5.heap.size, 1, none⟩ (.int .u64 (c3 : Int))) m B V T M rs ds (N + 96)) := HS9.out.two HLo.out h23 h35 _ _
    go_wp2_with fail
    refine (HFt.out _ 96 (by omega) HSa.out).mono ?_
    rintro e wb ⟨rfl, HSb, HKb⟩
    have HFb : Hid (BoxF wb w5.heap.size b3 c3) := HFa.out.keeps HKb.out (show ¬ w5.heap.size = m by omega)
    have HGb : Hid (BoxF wb w7.heap.size b1 c1) := HGa.out.keeps HKb.out (show ¬ w7.heap.size = m by omega)
    have h7b : w7.heap.size < wb.heap.size := HGb.out.lt
    clear g0 g1 HF9 HG9 HFa HGa HSa HKb HS9 HFt
    obtain ⟨_, _, g0, g1⟩ := HGb.out.cells
    have HGc := Lib.hid (HGb.out.set b3 (c3 : Int))
    have HFc : Hid (BoxF ((wb.setCell ⟨w7.heap.size, 0, none⟩ (.int .i64 b3)).setCell ⟨w7.heap.size, 1, none⟩ (.int .u64 (c3 : Int))) w5.heap.size b3 c3) := HFb.out.keeps (Keeps.two wb _ _ _) (fun e => h579 (show w5.heap.size = w7.heap.size from e))
    have HSc : Hid (BSt w2 w3 ((wb.setCell ⟨w7.heap.size, 0, none⟩ (.int .i64 b3)).setCell ⟨w7.heap.size, 1, none⟩ (.int .u64 (c3 : Int))) m B V T M rs ds (N + 128)) := HSb.out.two HLo.out h23 (by omega) _ _
    obtain ⟨p0, p1, _, _⟩ := HFc.out.cells
    obtain ⟨q0, q1, _, _⟩ := HGc.out.cells
    go_wp2_with fail
    refine (HSp.out _ 128 2 (by omega) HSc.out).mono ?_
    rintro e wd ⟨rfl, HSd, HKd⟩
    generalize hr2 : takeV (rs ++ ds) M root virt 2 k = r2 at *
    obtain ⟨a2, b2, c2⟩ := r2
    have HR2 := Lib.hid hr2
    have HFd : Hid (BoxF wd w5.heap.size b3 c3) := HFc.out.keeps HKd.out (show ¬ w5.heap.size = m by omega)
    have h5d : w5.heap.size < wd.heap.size := HFd.out.lt
    clear p0 p1 q0 q1 g0 g1 hr2 HFb HGb HFc HGc HSc HSb HKd
    obtain ⟨_, _, g0, g1⟩ := HFd.out.cells
    have HFe := Lib.hid (HFd.out.set b2 (c2 : Int))
    have HSe : Hid (BSt w2 w3 ((wd.setCell ⟨w5.heap.size, 0, none⟩ (.int .i64 b2)).setCell ⟨w5.heap.size, 1, none⟩ (.int .u64 (c2 : Int))) m B V T M rs ds (N + 160)) := HSd.out.two HLo.out h23 h35 _ _
    have HZe : Hid (((wd.setCell ⟨w5.heap.size, 0, none⟩ (.int .i64 b2)).setCell ⟨w5.heap.size, 1, none⟩ (.int .u64 (c2 : Int))).cell? ⟨w.heap.size, 0, none⟩ = some vr ∧ ((wd.setCell ⟨w5.heap.size, 0, none⟩ (.int .i64 b2)).setCell ⟨w5.heap.size, 1, none⟩ (.int .u64 (c2 : Int))).cell? ⟨w.heap.size, 1, none⟩ = some vd) := ⟨(HSe.out.2.1.cell (p := ⟨w.heap.size, 0, none⟩) hl2).trans Hz.out.1, (HSe.out.2.1.cell (p := ⟨w.heap.size, 1, none⟩) hl2).trans Hz.out.2⟩
    have zd0 : wd.cell? ⟨w.heap.size, 0, none⟩ = some vr := (HSd.out.2.1.cell (p := ⟨w.heap.size, 0, none⟩) hl2).trans Hz.out.1
    have zd1 : wd.cell? ⟨w.heap.size, 1, none⟩ = some vd := (HSd.out.2.1.cell (p := ⟨w.heap.size, 1, none⟩) hl2).trans Hz.out.2
    have hw5 : w.heap.size ≠ w5.heap.size := by omega
    have HWh : Hid (∀ W s (M : Nat → Nat) T, s ≤ 2000 → Mx W m B V T M rs ds (N + s) → Below w2.heap.size w2 W → Calls Tryz.prog 11 #[.pointer (some ⟨m, 0, none⟩), .agg #[vr, vd]] W fun e w' => ∃ a c, e = .returned (.slice a (wholeL M (rs ++ ds)).length c) ∧ Hid (Own w' W.heap.size (.slice a (wholeL M (rs ++ ds)).length c) (wholeL M (rs ++ ds))) ∧ Hid (Mx w' m B V T M rs ds (N + s)) ∧ Hid (Keeps (fun j => j = m) W w')) := fun W s M T hs hM hB => by
      have hBw := HB2.out.trans (hB.mono HB2.out.size)
      exact whole_any hM (by omega) (HR0.out.below hBw (Nat.le_refl _)) (HD0.out.below hBw (Nat.le_refl _)) HSn2.out.1 (by have := HSn2.out.2; omega) HSz.out
    clear HSp
    go_wp2_with fail
    refine (HWh.out _ 160 M T (by omega) HSe.out.1 HSe.out.2.1).mono ?_
    rintro e wf ⟨aw, cw, rfl, HOf, HMf, HKf⟩
    have hle : ((wd.setCell ⟨w5.heap.size, 0, none⟩ (.int .i64 b2)).setCell ⟨w5.heap.size, 1, none⟩ (.int .u64 (c2 : Int))).heap.size = wd.heap.size := by simp
    rw [hle] at HOf
    have HFf : Hid (BoxF wf w5.heap.size b2 c2) := HFe.out.keeps HKf.out (show ¬ w5.heap.size = m by omega)
    have HSf : Hid (BSt w2 w3 wf m B V T M rs ds (N + 160)) := HSe.out.keeps HMf.out HKf.out hmw
    have hdf : wd.heap.size ≤ wf.heap.size := by have := HKf.out.size; rw [hle] at this; exact this
    have hd3 : w3.heap.size ≤ wd.heap.size := HSd.out.2.2
    clear g0 g1 HFd HFe HSe HKf HMf HSd HZe zd0 zd1 hle
    obtain ⟨WL, hWL⟩ : ∃ WL, WL = wholeL M (rs ++ ds) := ⟨_, rfl⟩
    have HWL := Lib.hid hWL
    rw [← hWL] at HOf
    rw [← hWL]
    obtain ⟨nl, hnl⟩ : ∃ nl, nl = WL.length := ⟨_, rfl⟩
    have HNl := Lib.hid hnl
    rw [← hnl] at HOf
    rw [← hnl]
    clear hWL hnl
    -- how many addresses there are
    obtain ⟨K1, hK1, hK1k, HRe⟩ : ∃ K1 : Nat, ((b2 == 0) = true ∧ K1 = k ∨ (b2 == 0) = false ∧ K1 = 0) ∧ K1 ≤ k ∧ Hid ((K1 = k ∧ b2 = 0 ∧ c2 = 0 ∧ reachF (rs ++ ds) M root virt 2 k = none) ∨ (K1 = 0 ∧ reachF (rs ++ ds) M root virt 2 k = some (b2, c2))) := by
      have h := HR2.out
      unfold takeV at h
      split at h
      · rename_i why x hre
        cases h
        exact ⟨0, .inr ⟨by simpa using reach_why hre, rfl⟩, Nat.zero_le _, .inr ⟨rfl, hre⟩⟩
      · rename_i hre
        cases h
        exact ⟨k, .inl ⟨rfl, rfl⟩, Nat.le_refl _, .inl ⟨rfl, rfl, rfl, hre⟩⟩
    have hk8 : k ≤ 8 := by rcases HK.out with h | h | h | h <;> omega
    have HTr : Hid (∀ W i, i ≤ 8 → BSt w2 w3 W m B V T M rs ds (N + 160 + i) → Calls Tryz.prog 12 #[.iface 29 (.pointer (some ⟨m, 0, none⟩)), .int .u64 (root : Int), .int .u64 (vv virt i : Int), .int .i64 2] W fun e w' => ∃ b c : Int, e = .returned (.tuple #[.int .u64 ((ad (rs ++ ds) M root virt 2 i).1 : Int), .agg #[.int .i64 b, .int .u64 c]]) ∧ Hid (BSt w2 w3 w' m B V T M rs ds (N + 160 + (i + 1))) ∧ Hid (Keeps (fun j => j = m) W w')) := fun W i hi hW => by
      refine (translate_any hW.1 hroot (by unfold vv; omega) (by omega)).mono ?_
      rintro e w' ⟨rfl, h1, h2⟩
      exact ⟨_, _, rfl, hW.keeps h1.out h2.out hmw, h2⟩
    go_wp2_with fail
    go_loopw [21, 22] (fun av iv wr => ∃ i : Nat, i ≤ K1 ∧ iv = .int .i64 (i : Int) ∧ ∃ a' n' c', av = .slice a' n' c' ∧ Hid (OwnA wr wf.heap.size (.slice a' n' c') ((List.range i).map fun j => (ad (rs ++ ds) M root virt 2 j).1)) ∧ Hid (BSt w2 w3 wr m B V T M rs ds (N + 160 + i)) ∧ Hid (BoxF wr w5.heap.size b2 c2) ∧ Hid (Own wr wd.heap.size (.slice aw nl cw) WL) ∧ Hid (wf.heap.size ≤ wr.heap.size)) (fun _ iv _ => K1 - (intOf iv).toNat)
    case atStart => exact ⟨0, Nat.zero_le _, rfl, none, 0, 0, rfl, OwnA.nil _ _, HSf, HFf, HOf, Nat.le_refl _⟩
    case round =>
      obtain ⟨i, hi, rfl, a', n', c', rfl, HAi, HSi, HFi, HOi, HLi⟩ := hrel
      obtain ⟨p0, p1, _, _⟩ := HFi.out.cells
      by_cases hlt : i < K1
      · obtain ⟨hb2, rfl⟩ : (b2 == 0) = true ∧ K1 = k := by
          rcases hK1 with h | ⟨_, h⟩
          · exact h
          · omega
        have qi : (i : Int) < (K1 : Int) := by omega
        have hvw : IntKind.u64.wrap ((virt : Int) + (i : Int)) = (vv virt i : Int) := by rw [IntKind.wrap_u64, vv]; omega
        have HCi := Lib.hid (HTr.out wr i (by omega) HSi.out)
        generalize vv virt i = va at *
        have hvm : ((virt : Int) + (i : Int)) % 18446744073709551616 = (va : Int) := by rw [← hvw, IntKind.wrap_u64]
        go_wp2_with fail
        refine HCi.out.mono ?_
        rintro e wg ⟨bg, cg, rfl, HSg, HKg⟩
        have HRg : Hid (((List.range i).map fun j => (ad (rs ++ ds) M root virt 2 j).1) ++ [(ad (rs ++ ds) M root virt 2 i).1] = ((List.range (i + 1)).map fun j => (ad (rs ++ ds) M root virt 2 j).1)) := by show _ = _; rw [List.range_succ, List.map_append]; rfl
        have HRl : Hid (((List.range i).map fun j => (ad (rs ++ ds) M root virt 2 j).1).length ≤ 1048576) := by show _ ≤ _; simp; omega
        generalize (ad (rs ++ ds) M root virt 2 i).1 = pa at *
        have hba : Below wg.heap.size wg ((wg.alloc (Obj.cells #[.int .i64 bg, .int .u64 cg] 37)).alloc (Obj.cells #[.int .u64 (pa : Int)] 26)) := ((Below.refl _ _).alloc (Nat.le_refl _) _).alloc (by simp) _
        have hwg : wr.heap.size ≤ wg.heap.size := HKg.out.size
        have F1 : Hid (OwnA ((wg.alloc (Obj.cells #[.int .i64 bg, .int .u64 cg] 37)).alloc (Obj.cells #[.int .u64 (pa : Int)] 26)) wf.heap.size (.slice a' n' c') ((List.range i).map fun j => (ad (rs ++ ds) M root virt 2 j).1)) := (HAi.out.keeps HKg.out (fun j e e' => by have := (HAi.out.lt j e).1; have e' : j = m := e'; omega)).below hba
        have F2 : Hid (BSt w2 w3 ((wg.alloc (Obj.cells #[.int .i64 bg, .int .u64 cg] 37)).alloc (Obj.cells #[.int .u64 (pa : Int)] 26)) m B V T M rs ds (N + 160 + (i + 1))) := HSg.out.below hba
        have F3 : Hid (BoxF ((wg.alloc (Obj.cells #[.int .i64 bg, .int .u64 cg] 37)).alloc (Obj.cells #[.int .u64 (pa : Int)] 26)) w5.heap.size b2 c2) := (HFi.out.keeps HKg.out (show ¬ w5.heap.size = m by omega)).below hba
        have F4 : Hid (Own ((wg.alloc (Obj.cells #[.int .i64 bg, .int .u64 cg] 37)).alloc (Obj.cells #[.int .u64 (pa : Int)] 26)) wd.heap.size (.slice aw nl cw) WL) := (HOi.out.keeps HKg.out (fun j e e' => by have := (HOi.out.lt j e).1; have e' : j = m := e'; omega)).below hba
        have F5 : Hid (((wg.alloc (Obj.cells #[.int .i64 bg, .int .u64 cg] 37)).alloc (Obj.cells #[.int .u64 (pa : Int)] 26)).cell? ⟨wg.heap.size + 1, 0, none⟩ = some (.int .u64 (pa : Int))) := by
          have h := cell_of_row ((wg.alloc (Obj.cells #[.int .i64 bg, .int .u64 cg] 37)).alloc (Obj.cells #[.int .u64 (pa : Int)] 26)) (wg.heap.size + 1) 0 _ _ _ (by have := heap_alloc_new (wg.alloc (Obj.cells #[.int .i64 bg, .int .u64 cg] 37)) (Obj.cells #[.int .u64 (pa : Int)] 26); simpa using this)
          exact h
        have F6 : Hid (wf.heap.size ≤ ((wg.alloc (Obj.cells #[.int .i64 bg, .int .u64 cg] 37)).alloc (Obj.cells #[.int .u64 (pa : Int)] 26)).heap.size) := Nat.le_trans HLi.out (Nat.le_trans hwg hba.size)
        have hof : ∀ j, (Value.slice aw nl cw).ownBlock = some j → j < wf.heap.size := fun j e => (HOf.out.lt j e).2
        clear hba HAi HSi HFi HOi HSg HKg HTr p0 p1 HCi
        go_wp2_with (refine wpList_appendA rfl (.tmp 129) (.tmp 131) rfl F1.out rfl rfl F5.out HRl.out F6.out ?_)
        intro v' wh ho hg5 ho3
        have HKh : Hid (Keeps (fun j => (Value.slice a' n' c').ownBlock = some j) ((wg.alloc (Obj.cells #[.int .i64 bg, .int .u64 cg] 37)).alloc (Obj.cells #[.int .u64 (pa : Int)] 26)) wh) := ⟨hg5.os, hg5.tape, hg5.output, hg5.size, fun j hj hn => hg5.block j hj (fun e => hn e.symm)⟩
        obtain ⟨a2', c2', rfl, _⟩ := ho.form
        generalize (((List.range i).map fun j => (ad (rs ++ ds) M root virt 2 j).1) ++ [pa]).length = nn at ho ⊢
        rw [HRg.out] at ho
        have G1 := Lib.hid ho
        have hnb : ∀ j, (Value.slice a' n' c').ownBlock = some j → wf.heap.size ≤ j := fun j e => (F1.out.lt j e).1
        have G2 : Hid (BSt w2 w3 wh m B V T M rs ds (N + 160 + (i + 1))) := ⟨F2.out.1.keeps HKh.out (fun j hj e => by have := HLo.out j hj; have := hnb j e; omega), below_keeps F2.out.2.1 HKh.out (fun j e => by have := hnb j e; omega), Nat.le_trans F2.out.2.2 HKh.out.size⟩
        have G3 : Hid (BoxF wh w5.heap.size b2 c2) := F3.out.keeps HKh.out (fun e => by have := hnb _ e; have := HFf.out.lt; omega)
        have G4 : Hid (Own wh wd.heap.size (.slice aw nl cw) WL) := F4.out.keeps HKh.out (fun j e e' => by have := hnb j e'; have := hof j e; omega)
        have G5 : Hid (wf.heap.size ≤ wh.heap.size) := Nat.le_trans F6.out HKh.out.size
        clear ho hg5 ho3 F1 F2 F3 F4 F5 F6 HKh
        go_wp2_with fail
        exact ⟨⟨i + 1, by omega, by go_num, _, _, _, rfl, G1, G2, G3, G4, G5⟩, by simp [intOf]; omega⟩
      · obtain rfl : i = K1 := by omega
        clear hi
        have Htest : Hid (i < k → (b2 == 0) = false) := fun h => by
          rcases hK1 with ⟨_, h2⟩ | ⟨h2, _⟩
          · omega
          · exact h2
        clear hlt
        go_upto_region 21 with fail
        go_cut [115] (fun s wx => s = .bool false ∧ wx = wr)
        case first =>
          by_cases hik : i < k
          · have hib : decide ((i : Int) < (k : Int)) = true := decide_eq_true (by omega)
            have hb2 := Htest.out hik
            go_wp2_with fail
            go_meet
            exact ⟨rfl, rfl⟩
          · have hib : decide ((i : Int) < (k : Int)) = false := decide_eq_false (by omega)
            go_wp2_with fail
            go_meet
            exact ⟨rfl, rfl⟩
        case rest =>
          obtain ⟨rfl, hwc⟩ := hcut
          have hwc2 := hwc.symm
          subst hwc2
          have hwcw : wf.heap.size ≤ wr.heap.size := HLi.out
          have HSt : Hid (∀ W, Below wr.heap.size wr W → Calls Tryz.prog 13 #[.iface 29 (.pointer (some ⟨m, 0, none⟩)), .int .u64 (root : Int), .int .u64 (virt : Int), .int .i64 (k : Int), .int .u64 (val : Int)] W fun e w' => e = .returned (.agg #[.int .i64 b2, .int .u64 (c2 : Int)]) ∧ (w'.cell? ⟨w5.heap.size, 0, none⟩ = some (.int .i64 b2) ∧ w'.cell? ⟨w5.heap.size, 1, none⟩ = some (.int .u64 (c2 : Int))) ∧ Hid (Keeps (fun j => j = m ∨ Foot B T j) W w') ∧ Hid (∃ T', Mx w' m B V T' (stM (rs ++ ds) M root virt val i) rs ds (N + 300) ∧ Grows wr.heap.size T T')) := fun W hW => by
            refine (wstore_any (v := virt) (HSi.out.1.below hW) hroot hval (by omega) HK.out).mono ?_
            intro e w' hP
            have hfo : ∀ w'', Keeps (fun j => j = m ∨ Foot B T j) W w'' → BoxF w'' w5.heap.size b2 c2 := fun w'' hk => (HFi.out.below hW).keeps hk (fun e => by
              rcases e with e | e
              · omega
              · have := HLo.out _ (.inr (.inl e)); omega)
            rcases hP with ⟨why, x, hre, rfl, hM, hk⟩ | ⟨hre, _, rfl, T', hM, hg, hk⟩
            · rcases HRe.out with ⟨_, _, _, h4⟩ | ⟨h1, h2⟩
              · rw [h4] at hre; cases hre
              · rw [h2] at hre
                cases hre
                have hk' : Keeps (fun j => j = m ∨ Foot B T j) W w' := hk.mono (fun _ _ e => .inl e)
                refine ⟨rfl, ⟨(hfo w' hk').cells.1, (hfo w' hk').cells.2.1⟩, hk', T, ?_, Grows.refl _ _⟩
                rw [h1]
                exact hM.mono (by omega)
            · rcases HRe.out with ⟨h1, h2, h3, _⟩ | ⟨_, h2⟩
              · subst h2
                subst h3
                refine ⟨rfl, ⟨(hfo w' hk).cells.1, (hfo w' hk).cells.2.1⟩, hk, T', ?_, fun a b e => (hg a b e).imp id (fun h => Nat.le_trans hW.size h)⟩
                rw [h1]
                exact hM.mono (by omega)
              · rw [h2] at hre; cases hre
          obtain ⟨p0, p1, _, _⟩ := HFi.out.cells
          have HBd : Hid (Below wr.heap.size wr wr.drew) := (Below.refl _ _).drew
          clear HTr
          go_upto_region 25 with fail
          go_cut [141] (fun s wx => s = .bool false ∧ Hid (Keeps (fun j => j = m ∨ Foot B T j) wr wx) ∧ Hid (∃ T', Mx wx m B V T' (stM (rs ++ ds) M root virt val i) rs ds (N + 300) ∧ Grows wr.heap.size T T'))
          case first =>
            go_region_with (go_at_call 13; refine (HSt.out _ HBd.out).mono ?_; rintro e wi ⟨rfl, ⟨i0, i1⟩, HKi, HMi2⟩)
            all_goals
              go_wp2_with fail
              go_meet
              exact ⟨rfl, (Keeps.of_below (S := fun j => j = m ∨ Foot B T j) HBd.out).trans HKi.out (fun _ _ e => e), HMi2⟩
          case rest =>
            obtain ⟨rfl, HKi, HMi2⟩ := hcut
            obtain ⟨T', gMx, gGr⟩ := HMi2.out
            have HMx := Lib.hid gMx
            have hwrc : wr.heap.size ≤ wc.heap.size := HKi.out.size
            have HMn : Hid (∀ j, Mine m B V T' j → (j < w3.heap.size ∧ w2.heap.size ≤ j) ∨ wr.heap.size ≤ j) := fun j hj => by
              rcases hj with rfl | (rfl | ⟨a, ha⟩) | hj
              · exact .inl ⟨HLo.out _ (.inl rfl), HMi.out _ (.inl rfl)⟩
              · exact .inl ⟨HLo.out _ (.inr (.inl (.inl rfl))), HMi.out _ (.inr (.inl (.inl rfl)))⟩
              · rcases gGr a j ha with h | h
                · exact .inl ⟨HLo.out _ (.inr (.inl (.inr ⟨a, h⟩))), HMi.out _ (.inr (.inl (.inr ⟨a, h⟩)))⟩
                · exact .inr h
              · exact .inl ⟨HLo.out _ (.inr (.inr hj)), HMi.out _ (.inr (.inr hj))⟩
            have hfo : ∀ j, (j = m ∨ Foot B T j) → j < w3.heap.size ∧ w2.heap.size ≤ j := fun j e => by
              have hm : Mine m B V T j := e.elim .inl (fun e => .inr (.inl e))
              exact ⟨HLo.out j hm, HMi.out j hm⟩
            have HBc : Hid (Below w2.heap.size w2 wc) := below_keeps HSi.out.2.1 HKi.out (fun j e => (hfo j e).2)
            have HOc : Hid (Own wc wd.heap.size (.slice aw nl cw) WL) := HOi.out.keeps HKi.out (fun j e e' => by have := (HOi.out.lt j e).1; have := (hfo j e').1; omega)
            have HAc : Hid (OwnA wc wf.heap.size (.slice a' n' c') ((List.range i).map fun j => (ad (rs ++ ds) M root virt 2 j).1)) := HAi.out.keeps HKi.out (fun j e e' => by have := (HAi.out.lt j e).1; have := (hfo j e').1; omega)
            have zc0 : wc.cell? ⟨w.heap.size, 0, none⟩ = some vr := (HBc.out.cell (p := ⟨w.heap.size, 0, none⟩) hl2).trans Hz.out.1
            have zc1 : wc.cell? ⟨w.heap.size, 1, none⟩ = some vd := (HBc.out.cell (p := ⟨w.heap.size, 1, none⟩) hl2).trans Hz.out.2
            have hBw := HB2.out.trans (HBc.out.mono HB2.out.size)
            have HAl := Lib.hid (all_any (HR0.out.below hBw (Nat.le_refl _)) (HD0.out.below hBw (Nat.le_refl _)) (by have := HSn2.out.2; omega))
            obtain rfl : i = n' := by
              obtain ⟨_, _, e, _⟩ := HAi.out.form
              cases e
              simp
            clear HKi HMi2 gMx gGr hfo HOi HAi HSi HFi HBd HSt p0 p1 hBw
            go_wp2_with fail
            refine HAl.out.mono ?_
            rintro e wk ⟨al, nll, cl, rfl, HBk, HVl, HVb⟩
            have hck : wc.heap.size ≤ wk.heap.size := HBk.out.size
            have HI0 : Hid (LI w2 wk m B V T' (stM (rs ++ ds) M root virt val i) rs ds (N + 300) wd.heap.size (.slice aw nl cw) WL wf.heap.size (.slice a' i c') ((List.range i).map fun j => (ad (rs ++ ds) M root virt 2 j).1) (.slice al nll cl)) := ⟨HOc.out.below HBk.out, HAc.out.below HBk.out, HVl.out, HMx.out.below HBk.out, HBc.out.trans (HBk.out.mono HBc.out.size)⟩
            have HDj : Hid (Dj w2 m B V T' (.slice aw nl cw) (.slice a' i c') (.slice al nll cl)) := fun g hg => by
              have h1 := (HOc.out.lt g hg).1
              have h2 := (HOf.out.lt g hg).2
              refine ⟨by omega, fun j e => ?_, fun j e => ?_, fun j e => ?_⟩
              · have := (HAc.out.lt j e).1; omega
              · have := HVb.out j e; omega
              · rcases HMn.out j e with h | h <;> omega
            have hnll : nll = (rs ++ ds).length := by
              obtain ⟨_, _, e, _⟩ := HVl.out
              cases e
              rfl
            have HNL := Lib.hid hnll
            have hll : nll ≤ 40 ∧ nll ≤ cl ∧ cl ≤ 9223372036854775807 := by
              obtain ⟨_, _, e, h1, h2, _⟩ := HVl.out
              cases e
              unfold maxLen at h2
              have := HSn2.out.2
              simp at h1 ⊢
              omega
            obtain ⟨hl40, hlc1, hlc2⟩ := hll
            have hci : i ≤ c' ∧ c' ≤ 9223372036854775807 := by
              obtain ⟨_, _, e, h1, h2⟩ := HAc.out.form
              injection e with _ _ e3
              unfold maxLen at h2
              simp at h1
              omega
            obtain ⟨hci1, hci2⟩ := hci
            have hnlz : nl ≤ 500000 := by
              have h1 := wholeL_len (M := M) (L := rs ++ ds) (fun x hx => by have := HSn2.out.1 x hx; omega)
              have := HSz.out
              rw [HNl.out, HWL.out]
              omega
            have HBg : Hid (nl = begN (rs ++ ds)) := by show _ = _; rw [HNl.out, HWL.out, wholeL_length]
            have hcw : nl ≤ cw ∧ cw ≤ 9223372036854775807 := by
              rcases HOc.out.2 with ⟨e, h0⟩ | ⟨g, cap, cur, e, _, _, h1, h2, _⟩
              · cases e; omega
              · cases e; unfold maxLen at h2; omega
            obtain ⟨hcw1, hcw2⟩ := hcw
            have hi8 : i ≤ 8 := by omega
            have HLL : Hid (∀ j (h : j < (rs ++ ds).length), 0 ≤ (rs ++ ds)[j].1 ∧ 0 < (rs ++ ds)[j].2 ∧ (rs ++ ds)[j].1 + (rs ++ ds)[j].2 ≤ 4294967296) := fun j h => HSn2.out.1 _ (List.getElem_mem h)
            rw [HWL.out] at HI0
            generalize hLLe : rs ++ ds = LL at *
            clear hnll HOc HAc HVl HVb HBk HMx HMn HAl zc0 zc1
            go_wp2_with fail
            go_loopw [26] (fun iv wr => ∃ i2 : Nat, i2 ≤ i ∧ iv = .int .i64 (i2 : Int) ∧ Hid (LI w2 wr m B V T' (stM LL M root virt val i) rs ds (N + 300) wd.heap.size (.slice aw nl cw) (wholeL (stM LL M root virt val i2) LL) wf.heap.size (.slice a' i c') ((List.range i).map fun j => (ad LL M root virt 2 j).1) (.slice al nll cl))) (fun iv _ => i - (intOf iv).toNat)
            case atStart => exact ⟨0, Nat.zero_le _, rfl, HI0⟩
            case round =>
              obtain ⟨i2, hi2, rfl, HI2⟩ := hrel
              by_cases hlt2 : i2 < i
              · have qi2 : (i2 : Int) < (i : Int) := by omega
                obtain ⟨MI, hMI⟩ : ∃ MI, MI = stM LL M root virt val i2 := ⟨_, rfl⟩
                obtain ⟨pa, hpa⟩ : ∃ pa, pa = (ad LL M root virt 2 i2).1 := ⟨_, rfl⟩
                obtain ⟨y, hy⟩ : ∃ y, y = (Pl.le 8 val).getD i2 0 := ⟨_, rfl⟩
                have HNx : Hid (stM LL M root virt val (i2 + 1) = putAt MI pa [y]) := by show _ = _; rw [hMI, hpa, hy]; rfl
                obtain ⟨r, hrr⟩ : ∃ r : Nat, (val : Int) / 2 ^ (8 * i2) = (r : Int) := ⟨val / 2 ^ (8 * i2), by rw [Int.natCast_ediv, Int.natCast_pow]; rfl⟩
                have hyr : (r : Int) % 256 = (y : Int) := by
                  rw [hy, le_shift val i2 (by omega), ← hrr, Int.natCast_emod, Int.natCast_ediv, Int.natCast_pow]
                  rfl
                have hy8 : y < 256 := by omega
                have hpb : pa ≤ 4294967296 := by
                  rcases HRe.out with ⟨h1, _, _, h4⟩ | ⟨h1, _⟩
                  · have hon := reach_on h4 i2 (by omega)
                    rw [← hpa] at hon
                    obtain ⟨x, hx, h5, h6⟩ := hon
                    have := HSn2.out.1 x hx
                    omega
                  · omega
                have HPa : Hid (∀ W, LI w2 W m B V T' (stM LL M root virt val i) rs ds (N + 300) wd.heap.size (.slice aw nl cw) (wholeL MI LL) wf.heap.size (.slice a' i c') ((List.range i).map fun j => (ad LL M root virt 2 j).1) (.slice al nll cl) → True) := fun _ _ => trivial
                rw [← hMI] at HI2
                have HI20 : Hid (LI w2 wr m B V T' (stM LL M root virt val i) rs ds (N + 300) wd.heap.size (.slice aw nl cw) (mixL MI pa y LL 0) wf.heap.size (.slice a' i c') ((List.range i).map fun j => (ad LL M root virt 2 j).1) (.slice al nll cl)) := by rw [mix_zero]; exact HI2
                have HPx : Hid (∀ h : i2 < ((List.range i).map fun j => (ad LL M root virt 2 j).1).length, ((List.range i).map fun j => (ad LL M root virt 2 j).1)[i2] = pa) := fun h => by rw [hpa]; simp
                have HXL : Hid (((List.range i).map fun j => (ad LL M root virt 2 j).1).length = i) := by show _ = _; simp
                generalize ((List.range i).map fun j => (ad LL M root virt 2 j).1) = XS at *
                clear hMI hpa hy HI2 HPa
                go_wp2_with fail
                go_loopw [27, 28] (fun bv jv wr => ∃ j : Nat, j ≤ nll ∧ jv = .int .i64 (j : Int) ∧ bv = .int .u64 (begN (LL.take j) : Int) ∧ Hid (LI w2 wr m B V T' (stM LL M root virt val i) rs ds (N + 300) wd.heap.size (.slice aw nl cw) (mixL MI pa y LL j) wf.heap.size (.slice a' i c') XS (.slice al nll cl))) (fun _ jv _ => nll - (intOf jv).toNat)
                case atStart => exact ⟨0, Nat.zero_le _, rfl, rfl, HI20⟩
                case round =>
                  obtain ⟨j, hj, rfl, rfl, HJ⟩ := hrel
                  by_cases hjl : j < nll
                  · have qj : (j : Int) < (nll : Int) := by omega
                    have hjL : j < LL.length := by rw [← HNL.out]; exact hjl
                    obtain ⟨ga, hga, ca⟩ := HJ.out.2.1.cell i2 (by rw [HXL.out]; exact hlt2)
                    rw [HPx.out] at ca
                    have hsv := HJ.out.2.2.1
                    rw [hLLe] at hsv
                    obtain ⟨gl, off, hgl, d0, d1⟩ := sv_at hsv j hjL
                    clear hsv
                    obtain ⟨s0, s1, s2⟩ := HLL.out j hjL
                    have HNo : Hid (¬ (LL[j].1.toNat ≤ pa ∧ pa < LL[j].1.toNat + LL[j].2.toNat) → mixL MI pa y LL (j + 1) = mixL MI pa y LL j) := fun h => mix_no hjL h
                    have HYes : Hid (LL[j].1.toNat ≤ pa → pa < LL[j].1.toNat + LL[j].2.toNat → (mixL MI pa y LL j).set (begN (LL.take j) + (pa - LL[j].1.toNat)) y = mixL MI pa y LL (j + 1)) := fun h1 h2 => mix_yes hjL h1 h2
                    have hbs := beg_step hjL
                    have hbl : begN (LL.take (j + 1)) ≤ nl := by rw [HBg.out]; exact beg_le
                    obtain ⟨bN, hbN⟩ : ∃ bN : Nat, LL[j].1 = (bN : Int) := ⟨LL[j].1.toNat, by omega⟩
                    obtain ⟨sN, hsN⟩ : ∃ sN : Nat, LL[j].2 = (sN : Int) := ⟨LL[j].2.toNat, by omega⟩
                    rw [hbN] at d0 s0 s2 HNo HYes
                    rw [hsN] at d1 s1 s2 HNo HYes hbs
                    simp only [Int.toNat_natCast] at HNo HYes hbs
                    have HbN := Lib.hid hbN
                    have HsN := Lib.hid hsN
                    clear hbN hsN
                    generalize hbg : begN (LL.take j) = bg at *
                    generalize hbg2 : begN (LL.take (j + 1)) = bg2 at *
                    have HBG2 : Hid (begN (LL.take (j + 1)) = bg2) := hbg2
                    clear hbg hbg2
                    subst hga
                    subst hgl
                    have hws : IntKind.u64.wrap ((bg : Int) + (sN : Int)) = (bg : Int) + (sN : Int) := by rw [IntKind.wrap_u64]; omega
                    by_cases q1 : (bN : Int) ≤ (pa : Int)
                    · have q1d : decide ((bN : Int) ≤ (pa : Int)) = true := decide_eq_true q1
                      have hwa : IntKind.u64.wrap ((pa : Int) - (bN : Int)) = (pa : Int) - (bN : Int) := by rw [IntKind.wrap_u64]; omega
                      by_cases q2 : (pa : Int) - (bN : Int) < (sN : Int)
                      · have q2d : decide ((pa : Int) - (bN : Int) < (sN : Int)) = true := decide_eq_true q2
                        obtain ⟨idx, hidx, hidx2⟩ : ∃ idx : Nat, idx = bg + (pa - bN) ∧ idx < nl := ⟨_, rfl, by omega⟩
                        have HY := Lib.hid (HYes.out (by omega) (by omega))
                        rw [← hidx] at HY
                        have hidi : (bg : Int) + (pa : Int) - (bN : Int) = (idx : Int) := by omega
                        have hx1 : IntKind.u64.wrap ((bg : Int) + (pa : Int)) = (bg : Int) + (pa : Int) := by rw [IntKind.wrap_u64]; omega
                        have hx2 : IntKind.u64.wrap ((bg : Int) + (pa : Int) - (bN : Int)) = (idx : Int) := by rw [IntKind.wrap_u64]; omega
                        have hx2' : IntKind.u64.wrap (idx : Int) = (idx : Int) := by rw [IntKind.wrap_u64]; omega
                        have hx3 : IntKind.i64.wrap (8 * (i2 : Int)) = 8 * (i2 : Int) := by rw [IntKind.wrap_i64]; omega
                        have hx4 : IntKind.u64.wrap (8 * (i2 : Int)) = 8 * (i2 : Int) := by rw [IntKind.wrap_u64]; omega
                        have hx5 : IntKind.u8.wrap (r : Int) = (y : Int) := by rw [IntKind.wrap_u8]; exact hyr
                        have hx6 : (8 * (i2 : Int)).toNat = 8 * i2 := by omega
                        obtain ⟨gw, haw, hgw, _⟩ := (own_cells HJ.out.1).1 idx hidx2
                        subst haw
                        obtain ⟨_, hd2, hd3, _⟩ := HDj.out gw rfl
                        have hag : ga ≠ gw := hd2 ga rfl
                        have hlg : gl ≠ gw := hd3 gl rfl
                        clear hd2 hd3 hidx
                        go_wp2_with fail
                        go_quiet (fail)
                        go_wp2_with fail
                        have HJq := Lib.hid (HJ.out.below (U64.below_drewN' (Below.refl wr.heap.size wr) nq))
                        clear ca d0 d1 HJ
                        generalize wr.drewN nq = wq at *
                        obtain ⟨ga', hga', ca⟩ := HJq.out.2.1.cell i2 (by rw [HXL.out]; exact hlt2)
                        rw [HPx.out] at ca
                        cases hga'
                        have fz := own_thawed HJq.out.1 idx
                        obtain ⟨gw', hgw', _, cz⟩ := (own_cells HJq.out.1).1 idx hidx2
                        cases hgw'
                        have hsv := HJq.out.2.2.1
                        rw [hLLe] at hsv
                        obtain ⟨gl', off', hgl', d0, d1⟩ := sv_at hsv j hjL
                        cases hgl'
                        rw [HbN.out] at d0
                        rw [HsN.out] at d1
                        clear hsv
                        go_region
                        all_goals
                          go_wp2_with fail
                          refine ⟨⟨j + 1, by omega, by go_num, congrArg (Value.int .u64) (by rw [HBG2.out]; omega), ?_⟩, by simp [intOf]; omega⟩
                          rw [← HY.out]
                          first | exact (HJq.out.below (Below.refl _ _).drew).set HDj.out idx y | exact (HJq.out.set HDj.out idx y).below (Below.refl _ _).drew
                      · have q2d : decide ((pa : Int) - (bN : Int) < (sN : Int)) = false := decide_eq_false q2
                        have HX := Lib.hid (HNo.out (by omega))
                        go_wp2_with fail
                        go_quiet (fail)
                        go_wp2_with fail
                        exact ⟨⟨j + 1, by omega, by go_num, congrArg (Value.int .u64) (by rw [HBG2.out]; omega), by rw [HX.out]; exact HJ.out.below (U64.below_drewN' (Below.refl _ _) _)⟩, by simp [intOf]; omega⟩
                    · have q1d : decide ((bN : Int) ≤ (pa : Int)) = false := decide_eq_false q1
                      have q1n : decide (bN ≤ pa) = false := decide_eq_false (by omega)
                      have HX := Lib.hid (HNo.out (by omega))
                      clear q1
                      go_wp2_with fail
                      go_quiet (fail)
                      go_wp2_with fail
                      exact ⟨⟨j + 1, by omega, by go_num, congrArg (Value.int .u64) (by rw [HBG2.out]; omega), by rw [HX.out]; exact HJ.out.below (U64.below_drewN' (Below.refl _ _) _)⟩, by simp [intOf]; omega⟩
                  · obtain rfl : nll = j := by omega
                    have HE : Hid (mixL MI pa y LL nll = wholeL (stM LL M root virt val (i2 + 1)) LL) := by show _ = _; rw [HNx.out, HNL.out]; exact mix_end _ _ _ _
                    rw [HE.out] at HJ
                    go_wp2_with fail
                    exact ⟨⟨i2 + 1, by omega, by go_num, HJ⟩, by simp [intOf]; omega⟩
              · obtain rfl : i = i2 := by omega
                have HWw : Hid (Calls Tryz.prog 11 #[.pointer (some ⟨m, 0, none⟩), .agg #[vr, vd]] wr fun e w' => ∃ a c, e = .returned (.slice a nl c) ∧ Hid (Own w' wr.heap.size (.slice a nl c) (wholeL (stM LL M root virt val i) LL)) ∧ Hid (Keeps (fun j => j = m) wr w')) := by
                  refine (HWh.out wr 300 _ T' (by omega) HI2.out.2.2.2.1 HI2.out.2.2.2.2).mono ?_
                  have hle : (wholeL (stM LL M root virt val i) LL).length = nl := by rw [wholeL_length, HBg.out]
                  rintro e w' ⟨a9, c9, rfl, h1, _, h3⟩
                  rw [hle] at h1 ⊢
                  exact ⟨a9, c9, rfl, h1, h3⟩
                have zr0 : wr.cell? ⟨w.heap.size, 0, none⟩ = some vr := (HI2.out.2.2.2.2.cell (p := ⟨w.heap.size, 0, none⟩) hl2).trans Hz.out.1
                have zr1 : wr.cell? ⟨w.heap.size, 1, none⟩ = some vd := (HI2.out.2.2.2.2.cell (p := ⟨w.heap.size, 1, none⟩) hl2).trans Hz.out.2
                go_wp2_with fail
                refine HWw.out.mono ?_
                rintro e wz ⟨a9, c9, rfl, HO9, HK9⟩
                have HO8 : Hid (Own wz wd.heap.size (.slice aw nl cw) (wholeL (stM LL M root virt val i) LL)) := HI2.out.1.keeps HK9.out (fun j e e' => (HDj.out j e).2.2.2 m (.inl rfl) (show m = j from (show j = m from e').symm))
                have HSm := Lib.hid (same_yes (own_cells HO9.out).1 (own_cells HO8.out).1 (own_cells HO9.out).2 (own_cells HO8.out).2)
                have HBz : Hid (Below w2.heap.size w2 wz) := below_keeps HI2.out.2.2.2.2 HK9.out (fun j e => by have e : j = m := e; omega)
                go_wp2_with fail
                refine HSm.out.mono ?_
                rintro e wy ⟨rfl, hby⟩
                have hfin : Below w.heap.size w wy := (HB2.out.trans (HBz.out.mono HB2.out.size)).trans (hby.mono (by have := HB2.out.size; have := HBz.out.size; omega))
                go_wp2_with fail
                go_ret
                exact ⟨rfl, hfin⟩
  · have hsf : smallB rs ds = false := by simpa using hsm
    go_wp2_with fail
    go_ret
    exact ⟨rfl, HB2.out⟩
end Go.Proofs.YtmaahompmgmkfaaGreat
/- WalkBytes: its row, by the guide's shell. -/
namespace Go.Proofs.YtmaahompmgmkfaaGreat.walkBytes
open Go.ChangeShapes Go.WideShapes Go.ChangeAt Go.RowKit
open Go.ChangeMaps (open_string shut_string)
set_option linter.unusedVariables false

theorem own : ownKnob Tryz.prog.godebug = none := by kernel_rfl
theorem laidOut : laidOutB Tryz.prog = true := by kernel_rfl

set_option maxRecDepth 100000 in
theorem lifted (os : Os) (started : os.Started) (H : Type) (enc : TypeId × Value → H) :
    ReturnsInHanded {} Tryz.checked os 3 .any (Rows.walkBytesSpec.pre6 enc Tryz.prog Tryz.f3 Rows.walkBytesRow.domain false) (Rows.walkBytesSpec.post enc Tryz.prog Tryz.f3 false true false false) := by
  refine returnsInHanded_of_change_sized (C := Tryz.checked) own started (by kernel_rfl) Tryz.func3
    (ChangeSpec.witness6 (enc := enc) (C := Tryz.checked) false ⟨#[], #[.agg #[.slice none 0 0, .slice none 0 0], .slice none 0 0, .int .u64 0, .int .u64 0, .int .i64 0, .int .u64 0], []⟩ 8 (by kernel_rfl) (by kernel_rfl) (by kernel_rfl) (by kernel_rfl)) ?_
  intro W base args ds gs before hval0 hW hcnd hsz _
  have hval : ∀ (j : Nat) t v, Tryz.f3.params[j]? = some t → args[j]? = some v → Value.okWide Tryz.prog W .any base t v := hval0
  have hW' := hW
  obtain ⟨p, q, hA0, hV, rfl, hfz, hnd⟩ := hW
  have hA : DataW.TrodAll enc Tryz.prog W 0 (fun _ => true) true Tryz.f3.params.toList args.toList ds p := hA0
  rw [Tryz.params3] at hA hval hsz
  obtain ⟨v0, vs0, d0, ds0, p0, q0, hargs, rfl, rfl, h0, r0⟩ := trodAll_cons hA
  obtain ⟨v1, vs1, d1, ds1, p1, q1, rfl, rfl, rfl, h1, r1⟩ := trodAll_cons r0
  obtain ⟨v2, vs2, d2, ds2, p2, q2, rfl, rfl, rfl, h2, r2⟩ := trodAll_cons r1
  obtain ⟨v3, vs3, d3, ds3, p3, q3, rfl, rfl, rfl, h3, r3⟩ := trodAll_cons r2
  obtain ⟨v4, vs4, d4, ds4, p4, q4, rfl, rfl, rfl, h4, r4⟩ := trodAll_cons r3
  obtain ⟨v5, vs5, d5, ds5, p5, q5, rfl, rfl, rfl, h5, r5⟩ := trodAll_cons r4
  obtain ⟨rfl, rfl, rfl⟩ := trodAll_nil r5
  obtain rfl : args = #[v0, v1, v2, v3, v4, v5] := by cases args; simp_all
  obtain ⟨rfl, rfl⟩ := trodVars_none hV
  have k0 := h0
  have lt0 : ∀ x ∈ p0, x.block < W.heap.size := by obtain ⟨m, hm⟩ := k0; exact DataW.trod_lt m _ _ _ hm
  obtain ⟨cs, rfl, _, hrow⟩ : ∃ cs, v0 = .agg cs ∧ cs.size = Tryz.prog.cellsOf 24 ∧ Row.okWide Tryz.prog W .any base 24 cs := by
    have := hval 0 24 v0 rfl rfl
    simp only [Value.okWide, Tryz.underlying24] at this
    exact this
  obtain ⟨vr, vd, rs, dd, rfl, hr, hd, fr, fd⟩ : ∃ vr vd rs ds, cs = #[vr, vd] ∧ U64.SV W vr rs ∧ U64.SV W vd ds ∧ Sp.Fits 18446744073709551615 rs ∧ Sp.Fits 18446744073709551615 ds := by
    obtain ⟨fuel, hf⟩ := h0
    exact bus_opened hrow hf
  obtain ⟨a1, len1, cap1, rfl⟩ := okWide_slice Tryz.underlying25 (hval 1 25 v1 rfl rfl)
  have k1 := h1
  have lt1 : ∀ x ∈ p1, x.block < W.heap.size := by obtain ⟨m, hm⟩ := k1; exact DataW.trod_lt m _ _ _ hm
  obtain ⟨ws, hx, fx, hp⟩ : ∃ ws, U64.SV W (.slice a1 len1 cap1) ws ∧ Sp.Fits 18446744073709551615 ws ∧ ws.length ≤ 1152921504606846976 := by
    obtain ⟨fuel, hf⟩ := h1
    obtain ⟨v, xs, e, hx, fx, hlen⟩ := wds_opened (fun v e => by
      have hv := hval 1 25 (.slice a1 len1 cap1) rfl rfl
      simp [Value.cells] at e
      subst e
      refine ⟨.any, base, ?_⟩
      simp only [Value.okWide, Tryz.underlying25] at hv
      exact hv) hf
    simp [Value.cells] at e
    subst e
    refine ⟨xs, hx, fx, ?_⟩
    rcases hlen with h | ⟨el, sp, hd, h⟩
    · omega
    · simp only at hd
      have hw := sized_slice hsz (j := 1) (t := 25) (elems := el) (spare := sp) rfl (by rw [← hd]; rfl) Tryz.underlying25
      have hw : (el.length + sp.length) * Tryz.prog.bytesOf 58 ≤ reachBytes := hw
      rw [show Tryz.prog.bytesOf 58 = 16 from by kernel_rfl] at hw
      have e3 : reachBytes = 140737488351232 := rfl
      omega
  obtain ⟨a2, rfl, rfl, rfl, w2⟩ := open_int Tryz.underlying26 (hval 2 26 v2 rfl rfl) h2
  obtain ⟨a3, rfl, rfl, rfl, w3⟩ := open_int Tryz.underlying26 (hval 3 26 v3 rfl rfl) h3
  obtain ⟨a4, rfl, rfl, rfl, w4⟩ := open_int Tryz.underlying3 (hval 4 3 v4 rfl rfl) h4
  obtain ⟨a5, rfl, rfl, rfl, w5⟩ := open_int Tryz.underlying26 (hval 5 26 v5 rfl rfl) h5
  have b2 := u64_in w2
  have b3 := u64_in w3
  have b5 := u64_in w5
  obtain ⟨root, rfl⟩ : ∃ n : Nat, a2 = (n : Int) := ⟨a2.toNat, by omega⟩
  obtain ⟨virt, rfl⟩ : ∃ n : Nat, a3 = (n : Int) := ⟨a3.toNat, by omega⟩
  obtain ⟨val, rfl⟩ : ∃ n : Nat, a5 = (n : Int) := ⟨a5.toNat, by omega⟩
  clear hA0 hval0
  refine (bytes_walk (n := a4) hr hd fr fd hx fx hp (by omega) (by omega)).mono fun e W' ⟨he, bel⟩ => ?_
  subst he
  exact ⟨_, rfl, _, _, _, [], _, [], hW', trodAll_mk1 (shut_bool Tryz.underlying4 _), (trodAll_cons_mk (Below.trod laidOut (by kernel_rfl) (of_decide_eq_true (by kernel_rfl)) k0 bel lt0) (trodAll_cons_mk (Below.trod laidOut (by kernel_rfl) (of_decide_eq_true (by kernel_rfl)) k1 bel lt1) (trodAll_cons_mk (shut_int Tryz.underlying26 w2) (trodAll_cons_mk (shut_int Tryz.underlying26 w3) (trodAll_cons_mk (shut_int Tryz.underlying3 w4) (trodAll_cons_mk (shut_int Tryz.underlying26 w5) trodAll_mk0)))))), rfl, bel.frame _, fun h => by cases h⟩

theorem over : Rows.walkBytesRow.holds Tryz.pinned (OpenSpec.ofChange Rows.walkBytesSpec) :=
  OpenClaim.holds_of_wide 3 Tryz.f3 rfl rfl rfl rfl rfl rfl rfl ⟨rfl, rfl, rfl, rfl, rfl⟩ rfl rfl rfl rfl rfl (by kernel_rfl) Tryz.func3 (by kernel_rfl)
    (of_decide_eq_true (by kernel_rfl)) (by unfold Func.isWrapper; first | (rw [if_pos (by decide +kernel)]; kernel_rfl) | (rw [if_neg (by decide +kernel)]; exact ⟨rfl, rfl⟩))
    (fun os started H enc _ => lifted os started H enc)

theorem proved : Rows.WalkBytesSaid :=
  over
#print axioms proved
end Go.Proofs.YtmaahompmgmkfaaGreat.walkBytes
