import Derived.Test.YtddgoncbdlhhhaaGreatR06
import Derived.Test.YtddgoncbdlhhhaaGreatR07
import Derived.Test.YtddgoncbdlhhhaaGreatR44
import Derived.Test.YtddgoncbdlhhhaaGreatRows
import Derived.WalkKit
import Derived.ProofKit
import Derived.OpenShut
import Derived.ShutString
import Derived.ChangeOld
import Derived.Below
/- BusPlays: the script that comes in. Own work. -/
namespace Go.Proofs.YtddgoncbdlhhhaaGreat
open Go.RowKit Go.ChangeShapes Go.WideShapes Go.Proofs.YtddgoncbdlhhhaaGreat.Sp
theorem six_is {α : Type} {cs : List α} {x0 x1 x2 x3 x4 x5 : α} (h : cs.length = 6) (h0 : (cs.drop 0).take 1 = [x0]) (h1 : (cs.drop 1).take 1 = [x1]) (h2 : (cs.drop 2).take 1 = [x2]) (h3 : (cs.drop 3).take 1 = [x3]) (h4 : (cs.drop 4).take 1 = [x4]) (h5 : (cs.drop 5).take 1 = [x5]) : cs = [x0, x1, x2, x3, x4, x5] := by
  match cs, h with
  | [a, b, c, d, e, f], _ => simp_all
theorem i64_le {n : Int} (h : (Lit.int .i64 n).wf = true) : n ≤ 9223372036854775807 := by
  simp [Lit.wf] at h
  have h2 : n ≤ 9223372036854775807 := h.2
  exact h2
section
variable {H : Type} {enc : TypeId × Value → H} {W : World} {base : Nat} {held : Bool}
theorem sl_opened {fuel : Nat} {cs : List Value} {x : DataW H × List MemPlace} (h : DataW.trod enc Tryz.prog W base (fun _ => true) held fuel 27 cs = some x) : ∃ pa pc p, cs = [.slice pa p.length pc] ∧ Sl W (.slice pa p.length pc) p := by
  rcases open_ints Tryz.underlying27 Tryz.underlying5 (by kernel_rfl) h with ⟨rfl, _⟩ | ⟨a, l, c, zs, rfl, _, hl, hm, hz, _, hcell, hwz⟩
  · exact ⟨none, 0, [], rfl, none, 0, rfl, Nat.le_refl _, Nat.zero_le _, by simp, by simp, fun i hi => absurd hi (by simp)⟩
  · obtain ⟨p, hp0, hp⟩ := sl_of_row (w := W) (a := some a) (len := l) (cap := c) (zs := zs) (.inr ⟨_, rfl, hl, hm, by simpa using hz, hcell, hwz⟩)
    subst hp0
    exact ⟨_, _, p, rfl, hp⟩
/-- what is asked of a step -/
def GoodO (W : World) (x : Op6) : Prop := Sl W (.slice x.pa x.zs.length x.pc) x.zs ∧ x.a ≤ 18446744073709551615 ∧ x.n ≤ 9223372036854775807 ∧ x.val ≤ 18446744073709551615
def cellsO (x : Op6) : List Value := [.int .i64 x.kd, .int .i64 x.who, .int .u64 (x.a : Int), .int .i64 x.n, .int .u64 (x.val : Int), .slice x.pa x.zs.length x.pc]
theorem op6_opened {fuel : Nat} {cs : List Value} {x : DataW H × List MemPlace} (h : DataW.trod enc Tryz.prog W base (fun _ => true) held fuel 29 cs = some x) :
    ∃ y : Op6, cs = cellsO y ∧ GoodO W y := by
  obtain ⟨xs, n, _, _, hl, hlen, hf⟩ := DataW.trod_struct Tryz.underlying29 h
  have hlen2 : xs.length = 6 := hlen
  obtain ⟨y0, e0⟩ : ∃ y, xs[0]? = some y := ⟨xs[0], List.getElem?_eq_getElem (by omega)⟩
  obtain ⟨y1, e1⟩ : ∃ y, xs[1]? = some y := ⟨xs[1], List.getElem?_eq_getElem (by omega)⟩
  obtain ⟨y2, e2⟩ : ∃ y, xs[2]? = some y := ⟨xs[2], List.getElem?_eq_getElem (by omega)⟩
  obtain ⟨y3, e3⟩ : ∃ y, xs[3]? = some y := ⟨xs[3], List.getElem?_eq_getElem (by omega)⟩
  obtain ⟨y4, e4⟩ : ∃ y, xs[4]? = some y := ⟨xs[4], List.getElem?_eq_getElem (by omega)⟩
  obtain ⟨y5, e5⟩ : ∃ y, xs[5]? = some y := ⟨xs[5], List.getElem?_eq_getElem (by omega)⟩
  obtain ⟨a, ha, _, wa⟩ := DataW.trod_int Tryz.underlying3 ((hf 0 _ rfl).trans e0)
  obtain ⟨b, hb, _, wb⟩ := DataW.trod_int Tryz.underlying3 ((hf 1 _ rfl).trans e1)
  obtain ⟨c, hc, _, wc⟩ := DataW.trod_int Tryz.underlying26 ((hf 2 _ rfl).trans e2)
  obtain ⟨d, hd, _, wd⟩ := DataW.trod_int Tryz.underlying3 ((hf 3 _ rfl).trans e3)
  obtain ⟨e, he, _, we⟩ := DataW.trod_int Tryz.underlying26 ((hf 4 _ rfl).trans e4)
  obtain ⟨pa, pc, p, hp, hs⟩ := sl_opened ((hf 5 _ rfl).trans e5)
  have c6 : Tryz.prog.cellsOf 26 = 1 := by kernel_rfl
  have c3 : Tryz.prog.cellsOf 3 = 1 := by kernel_rfl
  have c8 : Tryz.prog.cellsOf 27 = 1 := by kernel_rfl
  have cS : Tryz.prog.cellsOf 29 = 6 := by kernel_rfl
  change List.take (Tryz.prog.cellsOf 3) (List.drop 0 cs) = _ at ha
  change List.take (Tryz.prog.cellsOf 3) (List.drop 1 cs) = _ at hb
  change List.take (Tryz.prog.cellsOf 26) (List.drop 2 cs) = _ at hc
  change List.take (Tryz.prog.cellsOf 3) (List.drop 3 cs) = _ at hd
  change List.take (Tryz.prog.cellsOf 26) (List.drop 4 cs) = _ at he
  change List.take (Tryz.prog.cellsOf 27) (List.drop 5 cs) = _ at hp
  rw [c6] at hc he
  rw [c3] at ha hb hd
  rw [c8] at hp
  have bc := u64_in wc
  have be := u64_in we
  have bd := i64_le wd
  obtain ⟨c, rfl⟩ : ∃ n : Nat, c = (n : Int) := ⟨c.toNat, by omega⟩
  obtain ⟨e, rfl⟩ : ∃ n : Nat, e = (n : Int) := ⟨e.toNat, by omega⟩
  exact ⟨⟨a, b, c, d, e, pa, pc, p⟩, six_is (by rw [hl, cS]) ha hb hc hd he hp, hs, by dsimp only; omega, by dsimp only; omega, by dsimp only; omega⟩
set_option maxRecDepth 100000 in
theorem opsB_opened {fuel : Nat} {cs : List Value} {x : DataW H × List MemPlace} (h : DataW.trod enc Tryz.prog W base (fun _ => true) held fuel 25 cs = some x) : ∃ sa sc L, cs = [.slice sa (List.length L) sc] ∧ OpsB W sa L ∧ L.length ≤ sc ∧ sc ≤ maxLen := by
  rcases Go.Deep.open_slice Tryz.underlying25 h with ⟨rfl, _⟩ | ⟨a, len, cap, m, n, D, Pl, rfl, _, hl, hm, hmm, rfl, hx⟩
  · exact ⟨none, 0, [], rfl, fun j x h => (by simp at h), Nat.le_refl _, Nat.zero_le _⟩
  · have cS : Tryz.prog.cellsOf 29 = 6 := by kernel_rfl
    rw [cS] at hx
    have hmc : m = cap := by simpa using hmm
    haveI : Inhabited Op6 := ⟨⟨0, 0, 0, 0, 0, none, 0, []⟩⟩
    obtain ⟨F, hF⟩ := Go.Deep.choose_lt (α := Op6) (n := len) (p := fun i y => GoodO W y ∧ ∀ j v, (cellsO y)[j]? = some v → W.cell? ((a.add (i * 6)).add j) = some v) (fun i hi => by
      obtain ⟨cs', h1, h2⟩ := hx i (by omega)
      obtain ⟨y, rfl, hb⟩ := op6_opened h2
      obtain ⟨_, _, hc⟩ := World.cells?_some h1
      refine ⟨y, hb, fun j v hj => ?_⟩
      rw [hc j (by have := (List.getElem?_eq_some_iff.1 hj).1; simpa [cellsO] using this)]
      exact hj)
    refine ⟨some a, cap, (List.range len).map F, by simp, fun i y hy => ?_, by simpa using hl, hm⟩
    have hi' : i < len := by have := (List.getElem?_eq_some_iff.1 hy).1; simpa using this
    obtain ⟨hr, hc⟩ := hF i hi'
    have hget : ((List.range len).map F)[i]? = some (F i) := by simp [hi']
    rw [hget] at hy
    cases hy
    obtain ⟨b, o, sp⟩ := a
    cases sp with
    | some q => exact absurd (World.cell?_spot ((hF 0 (by omega)).2 0 _ rfl)) (by simp [Addr.add])
    | none =>
      simp only [Go.WideShapes.add_plain] at hc
      exact ⟨b, o, rfl, ⟨hc 0 _ rfl, hc 1 _ rfl, hc 2 _ rfl, hc 3 _ rfl, hc 4 _ rfl, hc 5 _ rfl⟩, hr⟩
end
end Go.Proofs.YtddgoncbdlhhhaaGreat
/- BusPlays: its row, by the guide's shell. -/
namespace Go.Proofs.YtddgoncbdlhhhaaGreat.busPlays
open Go.ChangeShapes Go.WideShapes Go.ChangeAt Go.RowKit
open Go.ChangeMaps (open_string shut_string)
set_option linter.unusedVariables false

theorem own : ownKnob Tryz.prog.godebug = none := by kernel_rfl
theorem laidOut : laidOutB Tryz.prog = true := by kernel_rfl

set_option maxRecDepth 100000 in
theorem lifted (os : Os) (started : os.Started) (H : Type) (enc : TypeId × Value → H) :
    ReturnsInHanded {} Tryz.checked os 3 .any (Rows.busPlaysSpec.pre6 enc Tryz.prog Tryz.f3 Rows.busPlaysRow.domain false) (Rows.busPlaysSpec.post enc Tryz.prog Tryz.f3 false true false false) := by
  refine returnsInHanded_of_change_sized (C := Tryz.checked) own started (by kernel_rfl) Tryz.func3
    (ChangeSpec.witness6 (enc := enc) (C := Tryz.checked) false ⟨#[], #[.agg #[.slice none 0 0, .slice none 0 0], .slice none 0 0], []⟩ 8 (by kernel_rfl) (by kernel_rfl) (by kernel_rfl) (by kernel_rfl)) ?_
  intro W base args ds gs before hval0 hW hcnd hsz _
  have hval : ∀ (j : Nat) t v, Tryz.f3.params[j]? = some t → args[j]? = some v → Value.okWide Tryz.prog W .any base t v := hval0
  have hW' := hW
  obtain ⟨p, q, hA0, hV, rfl, hfz, hnd⟩ := hW
  have hA : DataW.TrodAll enc Tryz.prog W 0 (fun _ => true) true Tryz.f3.params.toList args.toList ds p := hA0
  rw [Tryz.params3] at hA hval hsz
  obtain ⟨v0, vs0, d0, ds0, p0, q0, hargs, rfl, rfl, h0, r0⟩ := trodAll_cons hA
  obtain ⟨v1, vs1, d1, ds1, p1, q1, rfl, rfl, rfl, h1, r1⟩ := trodAll_cons r0
  obtain ⟨rfl, rfl, rfl⟩ := trodAll_nil r1
  obtain rfl : args = #[v0, v1] := by cases args; simp_all
  obtain ⟨rfl, rfl⟩ := trodVars_none hV
  have k0 := h0
  have lt0 : ∀ x ∈ p0, x.block < W.heap.size := by obtain ⟨m, hm⟩ := k0; exact DataW.trod_lt m _ _ _ hm
  obtain ⟨cs, rfl, _, hrow⟩ : ∃ cs, v0 = .agg cs ∧ cs.size = Tryz.prog.cellsOf 24 ∧ Row.okWide Tryz.prog W .any base 24 cs := by
    have := hval 0 24 v0 rfl rfl
    simp only [Value.okWide, Tryz.underlying24] at this
    exact this
  obtain ⟨vr, vd, rs, dd, rfl, hr, hd, fr, fd⟩ : ∃ vr vd rs ds, cs = #[vr, vd] ∧ U64.SV W vr rs ∧ U64.SV W vd ds ∧ Sp.Fits 18446744073709551615 rs ∧ Sp.Fits 18446744073709551615 ds := by
    obtain ⟨fuel, hf⟩ := h0
    exact bus_opened hrow hf
  obtain ⟨a1, len1, cap1, rfl⟩ := okWide_slice Tryz.underlying25 (hval 1 25 v1 rfl rfl)
  have k1 := h1
  have lt1 : ∀ x ∈ p1, x.block < W.heap.size := by obtain ⟨m, hm⟩ := k1; exact DataW.trod_lt m _ _ _ hm
  obtain ⟨L, e1, ho, hl, hm⟩ : ∃ L : List Op6, len1 = L.length ∧ OpsB W a1 L ∧ L.length ≤ cap1 ∧ cap1 ≤ maxLen := by
    obtain ⟨fuel, hf⟩ := h1
    obtain ⟨sa, sc, L, e, ho, hl, hm⟩ := opsB_opened hf
    simp [Value.cells] at e
    obtain ⟨rfl, rfl, rfl⟩ := e
    exact ⟨L, rfl, ho, hl, hm⟩
  subst e1
  clear hA0 hval0
  refine (plays_bus hr hd fr fd ho hl hm).mono fun e W' ⟨he, bel⟩ => ?_
  subst he
  exact ⟨_, rfl, _, _, _, [], _, [], hW', trodAll_mk1 (shut_bool Tryz.underlying4 _), (trodAll_cons_mk (Below.trod laidOut (by kernel_rfl) (of_decide_eq_true (by kernel_rfl)) k0 bel lt0) (trodAll_cons_mk (Below.trod laidOut (by kernel_rfl) (of_decide_eq_true (by kernel_rfl)) k1 bel lt1) trodAll_mk0)), rfl, bel.frame _, fun h => by cases h⟩

theorem over : Rows.busPlaysRow.holds Tryz.pinned (OpenSpec.ofChange Rows.busPlaysSpec) :=
  OpenClaim.holds_of_wide 3 Tryz.f3 rfl rfl rfl rfl rfl rfl rfl ⟨rfl, rfl, rfl, rfl, rfl⟩ rfl rfl rfl rfl rfl (by kernel_rfl) Tryz.func3 (by kernel_rfl)
    (of_decide_eq_true (by kernel_rfl)) (by unfold Func.isWrapper; first | (rw [if_pos (by decide +kernel)]; kernel_rfl) | (rw [if_neg (by decide +kernel)]; exact ⟨rfl, rfl⟩))
    (fun os started H enc _ => lifted os started H enc)

theorem proved : Rows.BusPlaysSaid :=
  over
#print axioms proved
end Go.Proofs.YtddgoncbdlhhhaaGreat.busPlays
