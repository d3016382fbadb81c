/- A script that is handed in, opened: the steps in memory. -/
import Derived.Test.YtceljnkbkpgdjaaDoorLaid
import Derived.Test.YtceljnkbkpgdjaaDoorWwFar
import Derived.Deep.Slices
namespace Go.Proofs.YtceljnkbkpgdjaaDoor
open Go.RowKit Go.ChangeShapes Go.WideShapes
theorem bounds_u64 {n : Int} (h : (Lit.int .u64 n).wf = true) : 0 ≤ n ∧ n < 18446744073709551616 := by
  simp [Lit.wf] at h
  have h1 : 0 ≤ n := h.1
  have h2 : n ≤ 18446744073709551615 := h.2
  omega
theorem six_list {α : Type} {cs : List α} {x0 x1 x2 x3 x4 x5 : α} (h : cs.length = 6) (h0 : (cs.drop 0).take 1 = [x0]) (h1 : (cs.drop 1).take 1 = [x1]) (h2 : (cs.drop 2).take 1 = [x2]) (h3 : (cs.drop 3).take 1 = [x3]) (h4 : (cs.drop 4).take 1 = [x4]) (h5 : (cs.drop 5).take 1 = [x5]) : cs = [x0, x1, x2, x3, x4, x5] := by
  match cs, h with
  | [a, b, c, d, e, f], _ => simp_all
theorem some_of {α : Type} {xs : List α} {n i : Nat} (h : xs.length = n) (hi : i < n) : ∃ y, xs[i]? = some y := ⟨xs[i], List.getElem?_eq_getElem (by omega)⟩
theorem nil_sl (w : World) : Sl w (.slice none 0 0) [] := ⟨none, 0, rfl, Nat.le_refl _, Nat.zero_le _, by simp, by simp, fun i hi => absurd hi (by simp)⟩
section
variable {H : Type} {enc : TypeId × Value → H} {W : World} {base : Nat} {held : Bool}
/-- a slice of bytes that is read, as bytes in memory -/
theorem sl_opened {fuel : Nat} {cs : List Value} {x : DataW H × List MemPlace} (h : DataW.trod enc Tryd.prog W base (fun _ => true) held fuel 34 cs = some x) : ∃ v p, cs = [v] ∧ Sl W v p := by
  rcases open_ints Tryd.underlying34 Tryd.underlying5 (by kernel_rfl) h with ⟨rfl, _⟩ | ⟨a, l, c, zs, rfl, _, hl, hm, hz, _, hcell, hwz⟩
  · exact ⟨_, [], rfl, nil_sl W⟩
  · obtain ⟨p, _, hp⟩ := sl_of_row (w := W) (a := some a) (len := l) (cap := c) (zs := zs) (.inr ⟨_, rfl, hl, hm, by simpa using hz, hcell, hwz⟩)
    exact ⟨_, p, rfl, hp⟩
theorem op_opened {fuel : Nat} {cs : List Value} {x : DataW H × List MemPlace} (h : DataW.trod enc Tryd.prog W base (fun _ => true) held fuel 36 cs = some x) :
    ∃ op : OpV, cs = [.int .i64 op.kind, .int .i64 op.pos, .int .u64 (op.n : Int), .int .i64 op.num, op.pv, .string op.s] ∧ Sl W op.pv op.ps ∧ op.n < 18446744073709551616 := by
  obtain ⟨xs, n, _, _, hl, hlen, hf⟩ := DataW.trod_struct Tryd.underlying36 h
  have hlen6 : xs.length = 6 := hlen
  obtain ⟨y0, e0⟩ := some_of hlen6 (show 0 < 6 by decide)
  obtain ⟨y1, e1⟩ := some_of hlen6 (show 1 < 6 by decide)
  obtain ⟨y2, e2⟩ := some_of hlen6 (show 2 < 6 by decide)
  obtain ⟨y3, e3⟩ := some_of hlen6 (show 3 < 6 by decide)
  obtain ⟨y4, e4⟩ := some_of hlen6 (show 4 < 6 by decide)
  obtain ⟨y5, e5⟩ := some_of hlen6 (show 5 < 6 by decide)
  obtain ⟨k, hk, _, _⟩ := DataW.trod_int Tryd.underlying3 ((hf 0 _ rfl).trans e0)
  obtain ⟨at_, ha, _, _⟩ := DataW.trod_int Tryd.underlying3 ((hf 1 _ rfl).trans e1)
  obtain ⟨nn, hn, _, hw⟩ := DataW.trod_int Tryd.underlying33 ((hf 2 _ rfl).trans e2)
  obtain ⟨nu, hu, _, _⟩ := DataW.trod_int Tryd.underlying3 ((hf 3 _ rfl).trans e3)
  obtain ⟨pv, ps, hp, hsl⟩ := sl_opened ((hf 4 _ rfl).trans e4)
  obtain ⟨s, hs, _, _⟩ := DataW.trod_string Tryd.underlying9 ((hf 5 _ rfl).trans e5)
  have c3 : Tryd.prog.cellsOf 3 = 1 := by kernel_rfl
  have c26 : Tryd.prog.cellsOf 33 = 1 := by kernel_rfl
  have c22 : Tryd.prog.cellsOf 34 = 1 := by kernel_rfl
  have c9 : Tryd.prog.cellsOf 9 = 1 := by kernel_rfl
  have c28 : Tryd.prog.cellsOf 36 = 6 := by kernel_rfl
  change List.take (Tryd.prog.cellsOf 3) (List.drop 0 cs) = _ at hk
  change List.take (Tryd.prog.cellsOf 3) (List.drop 1 cs) = _ at ha
  change List.take (Tryd.prog.cellsOf 33) (List.drop 2 cs) = _ at hn
  change List.take (Tryd.prog.cellsOf 3) (List.drop 3 cs) = _ at hu
  change List.take (Tryd.prog.cellsOf 34) (List.drop 4 cs) = _ at hp
  change List.take (Tryd.prog.cellsOf 9) (List.drop 5 cs) = _ at hs
  rw [c3] at hk ha hu
  rw [c26] at hn
  rw [c22] at hp
  rw [c9] at hs
  obtain ⟨b0, b1⟩ := bounds_u64 hw
  obtain ⟨m, rfl⟩ := Int.eq_ofNat_of_zero_le b0
  exact ⟨⟨k, at_, m, nu, pv, ps, s⟩, six_list (by rw [hl, c28]) hk ha hn hu hp hs, hsl, (by show m < 18446744073709551616; omega)⟩
/-- a script that is read, as steps in memory -/
theorem scr_opened {fuel : Nat} {cs : List Value} {x : DataW H × List MemPlace} (h : DataW.trod enc Tryd.prog W base (fun _ => true) held fuel 22 cs = some x) : ∃ v os, cs = [v] ∧ Scr W v os := by
  rcases Go.Deep.open_slice Tryd.underlying22 h with ⟨rfl, _⟩ | ⟨a, len, cap, m, n, D, Pl, rfl, _, hl, hm, hmm, _, hx⟩
  · exact ⟨_, [], rfl, none, 0, rfl, Nat.le_refl _, Nat.zero_le _, fun i hi => by simp at hi⟩
  · have c28 : Tryd.prog.cellsOf 36 = 6 := by kernel_rfl
    rw [c28] at hx
    have hmc : m = cap := by simpa using hmm
    haveI : Inhabited OpV := ⟨⟨0, 0, 0, 0, .slice none 0 0, [], ⟨#[]⟩⟩⟩
    obtain ⟨F, hF⟩ := Go.Deep.choose_lt (α := OpV) (n := len) (p := fun i op => Sl W op.pv op.ps ∧ op.n < 18446744073709551616 ∧ ∀ j v, ([.int .i64 op.kind, .int .i64 op.pos, .int .u64 (op.n : Int), .int .i64 op.num, op.pv, .string op.s] : List Value)[j]? = some v → W.cell? ((a.add (i * 6)).add j) = some v) (fun i hi => by
      obtain ⟨cs', h1, h2⟩ := hx i (by omega)
      obtain ⟨op, rfl, hsl, hn⟩ := op_opened h2
      obtain ⟨_, _, hc⟩ := World.cells?_some h1
      refine ⟨op, hsl, hn, fun j v hj => ?_⟩
      rw [hc j (by have := (List.getElem?_eq_some_iff.1 hj).1; simpa using this)]
      exact hj)
    refine ⟨_, (List.range len).map F, rfl, some a, cap, by simp, by simpa using hl, hm, fun i hi => ?_⟩
    have hi' : i < len := by simpa using hi
    obtain ⟨hsl, hn, hc⟩ := hF i hi'
    have hget : ((List.range len).map F)[i] = F i := by simp
    rw [hget]
    obtain ⟨b, o, sp⟩ := a
    cases sp with
    | some q => exact absurd (World.cell?_spot ((hF 0 (by omega)).2.2 0 _ rfl)) (by simp [Addr.add])
    | none =>
      simp only [Go.WideShapes.add_plain] at hc
      exact ⟨b, o, rfl, hsl, hn, hc 0 _ rfl, hc 1 _ rfl, hc 2 _ rfl, hc 3 _ rfl, hc 4 _ rfl, hc 5 _ rfl⟩
end
end Go.Proofs.YtceljnkbkpgdjaaDoor
