import Derived.Test.YtnifefmfhjfbnaaGreatDoorPk52
import Derived.Test.YtnifefmfhjfbnaaGreatDoorRows
import Derived.Test.YtnifefmfhjfbnaaGreatDoorPk49
import Derived.Deep.Slices
import Derived.SizedLaws
import Derived.WalkKit
import Derived.ProofKit
import Derived.OpenShut
import Derived.ShutString
import Derived.ChangeOld
import Derived.Below
import Derived.Test.YtnifefmfhjfbnaaGreatDoorPk01
/- Bundle: bursts: the law. Own work. -/
namespace Go.Proofs.YtnifefmfhjfbnaaGreatDoor
open Go.RowKit Bn Dc
set_option linter.unusedVariables false
set_option linter.unusedSimpArgs false
set_option maxRecDepth 100000 in
set_option maxHeartbeats 8000000 in
theorem bundleBursts_walk {w : World} {ui : List Value} {I : Im} {sc at_ : Int} {pat : Nat} (ht : Tab w) (hI : ImW w ui I) (hp : pat < 4294967296) : Calls Tryz.prog 6 #[.agg ui.toArray, .int .i64 sc, .int .i64 at_, .int .u32 (pat : Int)] w (LQ w) := by
 have HInu := Lib.hid (info_im hI.len)
 have HT := Lib.hid ht
 have HI := Lib.hid hI
 have HP : Hid (pat < 4294967296) := hp
 have HB0 : Hid (Below w.heap.size w (w.alloc (.cells ui.toArray 37))) := (Below.refl _ _).alloc (Nat.le_refl _) _
 have HX0 : Hid ((w.alloc (.cells ui.toArray 37)).heap[w.heap.size]? = some (.cells ui.toArray 37 (0, 0))) := heap_alloc_new w _
 clear ht hI hp
 go_enter Tryz.func6, Tryz.ntmps6
 go_upto_region 1 with fail
 generalize (w.alloc (.cells ui.toArray 37)) = W0 at *
 go_wp2_with fail
 refine smallX.mono ?_
 rintro e w1 ⟨rfl, hs1, hz1, hb1⟩
 generalize W0.heap.size = B1 at hs1 hz1 ⊢
 have HB1 : Hid (Below w.heap.size w w1) := HB0.out.trans (hb1.mono HB0.out.size)
 have HX1 : Hid (w1.heap[w.heap.size]? = some (.cells ui.toArray 37 (0, 0))) := (hb1.block _ (Array.getElem?_eq_some_iff.1 HX0.out).1).trans HX0.out
 have HC := Lib.hid (hurt_any (must := true) (sc := sc) (at_ := at_) (HT.out.below HB1.out) hs1.im (Nat.le_trans (small_sz _) (by decide)) (fun _ => small_size true) HP.out)
 clear hs1 hz1 hb1 HB0 HX0
 go_wp2_with fail
 refine HC.out.mono ?_
 rintro e w2 ⟨rfl, hb2⟩
 have HB2 : Hid (Below w.heap.size w w2) := HB1.out.trans (hb2.mono HB1.out.size)
 have HX2 : Hid (w2.heap[w.heap.size]? = some (.cells ui.toArray 37 (0, 0))) := (hb2.block _ (Array.getElem?_eq_some_iff.1 HX1.out).1).trans HX1.out
 have HL2 := Lib.hid (ld_im HX2.out HInu.out)
 have HH := Lib.hid (heavyX (HI.out.below HB2.out))
 clear hb2 HC HB1 HX1
 go_wp2_with (refine wpList_load_tyG (by kernel_rfl) 37 (.tmp 4) rfl rfl HL2.out ?_)
 refine HH.out.mono ?_
 rintro e w3 ⟨r, rfl, hr, hb3⟩
 have HB3 : Hid (Below w.heap.size w w3) := HB2.out.trans (hb3.mono HB2.out.size)
 have HX3 : Hid (w3.heap[w.heap.size]? = some (.cells ui.toArray 37 (0, 0))) := (hb3.block _ (Array.getElem?_eq_some_iff.1 HX2.out).1).trans HX2.out
 have HL3 := Lib.hid (ld_im HX3.out HInu.out)
 clear hb3 HH HB2 HX2 HL2
 cases r with
 | true =>
  clear hr
  go_wp2_with fail
  go_ret
  exact ⟨rfl, HB3.out⟩
 | false =>
  have hc := hr rfl
  have HC := Lib.hid (hurt_any (must := false) (sc := sc) (at_ := at_) (HT.out.below HB3.out) ((HI.out.a hc).below HB3.out) (szI_le hc) (fun h => by cases h) HP.out)
  clear hr hc
  go_wp2_with (refine wpList_load_tyG (by kernel_rfl) 37 (.tmp 4) rfl rfl HL3.out ?_)
  refine HC.out.mono ?_
  rintro e w4 ⟨rfl, hb4⟩
  have HB4 : Hid (Below w.heap.size w w4) := HB3.out.trans (hb4.mono HB3.out.size)
  clear hb4 HC
  go_wp2_with fail
  go_ret
  exact ⟨rfl, HB4.out⟩
end Go.Proofs.YtnifefmfhjfbnaaGreatDoor
/- Bundle: an image that comes in (written by parts/gen_bnop.py). Own work. -/
namespace Go.Proofs.YtnifefmfhjfbnaaGreatDoor
open Go.RowKit Go.ChangeShapes Go.WideShapes Bn
set_option linter.unusedVariables false
set_option linter.unusedSimpArgs false
theorem u64_nat {n : Int} (h : (Lit.int .u64 n).wf = true) : ∃ m : Nat, n = (m : Int) ∧ m ≤ 18446744073709551615 := by
 simp [Lit.wf] at h
 have h1 : 0 ≤ n := h.1
 have h2 : n ≤ 18446744073709551615 := h.2
 exact ⟨n.toNat, by omega, by omega⟩
theorem u8_nat {n : Int} (h : (Lit.int .u8 n).wf = true) : ∃ m : Nat, n = (m : Int) ∧ m ≤ 255 := by
 simp [Lit.wf] at h
 have h1 : 0 ≤ n := h.1
 have h2 : n ≤ 255 := h.2
 exact ⟨n.toNat, by omega, by omega⟩
theorem i64_in {n : Int} (h : (Lit.int .i64 n).wf = true) : I64R n := by
 simp [Lit.wf] at h
 have h1 : -9223372036854775808 ≤ n := h.1
 have h2 : n ≤ 9223372036854775807 := h.2
 exact ⟨h1, h2⟩
theorem some_in {α : Type} {xs : List α} {n i : Nat} (h : xs.length = n) (hi : i < n) : ∃ y, xs[i]? = some y := ⟨xs[i], List.getElem?_eq_getElem (by omega)⟩
section
variable {H : Type} {enc : TypeId × Value → H} {W : World} {base : Nat} {held : Bool}
/-- nothing in it is beyond what memory holds -/
def Sm (t : TypeId) (d : DataW H) : Prop := ∀ n ∈ d.weights Tryz.prog t, n ≤ reachBytes
theorem Sm.field {fs : Array Field} {t : TypeId} {xs : List (DataW H × List MemPlace)} (hu : Tryz.prog.underlying t = some (.struct fs)) (h : Sm t (.agg (xs.map (·.1)))) {i : Nat} {f : Field} (hf : fs[i]? = some f) {y : DataW H × List MemPlace} (hy : xs[i]? = some y) : Sm f.type y.1 := fun n hn => h n (by
 simp only [DataW.weights, hu]
 refine DataW.weights_mem_each (j := i) (t := f.type) (d := y.1) ?_ ?_ n hn
 ·rw [List.getElem?_map, Array.getElem?_toList, hf]
  rfl
 ·rw [List.getElem?_map, hy]
  rfl)
theorem weights_all {e : TypeId} : ∀ {ds : List (DataW H)} {d : DataW H}, d ∈ ds → ∀ n ∈ d.weights Tryz.prog e, n ∈ DataW.weightsAll Tryz.prog e ds
 | x :: ds, d, h, n, hn => by
  rw [DataW.weightsAll, List.mem_append]
  rcases List.mem_cons.1 h with rfl | h
  ·exact .inl hn
  ·exact .inr (weights_all h n hn)
theorem Sm.elem {t e : TypeId} {el sp : List (DataW H)} (hu : Tryz.prog.underlying t = some (.slice e)) (h : Sm t (.slice el sp)) {d : DataW H} (hd : d ∈ el) : Sm e d := fun n hn => h n (by
 simp only [DataW.weights, hu]
 exact List.mem_cons_of_mem _ (List.mem_append.2 (.inl (weights_all hd n hn))))
theorem Sm.len {t e : TypeId} {el sp : List (DataW H)} (hu : Tryz.prog.underlying t = some (.slice e)) (h : Sm t (.slice el sp)) (hb : 1 ≤ Tryz.prog.bytesOf e) : el.length ≤ reachBytes := by
 have := h ((el.length + sp.length) * Tryz.prog.bytesOf e) (by
  simp only [DataW.weights, hu]
  exact List.mem_cons_self)
 have h2 : (el.length + sp.length) * 1 ≤ (el.length + sp.length) * Tryz.prog.bytesOf e := Nat.mul_le_mul_left _ hb
 omega
theorem Sm.str {t : TypeId} {l : List UInt8} (h : Sm (H := H) t (.lit (.string l))) : l.length ≤ reachBytes := h l.length (by simp [DataW.weights])
theorem row_open {α : Type} [Inhabited α] {K : Nat} {p : α → List Value → Prop} {t e : TypeId} (hu : Tryz.prog.underlying t = some (.slice e)) (hK : Tryz.prog.cellsOf e = K) (hK0 : 0 < K) (hbb : 1 ≤ Tryz.prog.bytesOf e) (hone : ∀ (n : Nat) (cs : List Value) (x : DataW H × List MemPlace), DataW.trod enc Tryz.prog W base (fun _ => true) held n e cs = some x → Sm e x.1 → ∃ y, p y cs) {fuel : Nat} {cs : List Value} {x : DataW H × List MemPlace} (h : DataW.trod enc Tryz.prog W base (fun _ => true) held fuel t cs = some x) (hs : Sm t x.1) : ∃ (ao : Option Addr) (cap : Nat) (xs : List α), cs = [.slice ao xs.length cap] ∧ xs.length ≤ cap ∧ cap ≤ maxLen ∧ xs.length ≤ reachBytes ∧ ∀ i (h : i < xs.length), ∃ b o cs', ao = some ⟨b, o, none⟩ ∧ b < W.heap.size ∧ p xs[i] cs' ∧ cs'.length = K ∧ ∀ j, j < K → W.cell? ⟨b, o + i * K + j, none⟩ = cs'[j]? := by
 rcases Go.Deep.open_slice hu h with ⟨rfl, _⟩ | ⟨a, len, cap, m, n, D, Pl, rfl, _, hl, hm, hmm, rfl, hx⟩
 ·exact ⟨none, 0, [], rfl, Nat.le_refl _, Nat.zero_le _, Nat.zero_le _, fun i hi => by simp at hi⟩
 ·rw [hK] at hx
  have hmc : m = cap := by simpa using hmm
  have hlr := Sm.len hu hs hbb
  rw [List.length_map, List.length_range] at hlr
  obtain ⟨F, hF⟩ := Go.Deep.choose_lt (α := α) (n := len) (p := fun i y => ∃ cs', p y cs' ∧ cs'.length = K ∧ ∀ j, j < K → W.cell? ((a.add (i * K)).add j) = cs'[j]?) (fun i hi => by
   obtain ⟨cs', h1, h2⟩ := hx i (by omega)
   obtain ⟨_, hlen, hc⟩ := World.cells?_some h1
   obtain ⟨y, hy⟩ := hone n cs' _ h2 (Sm.elem hu hs (List.mem_map.2 ⟨i, List.mem_range.2 hi, rfl⟩))
   exact ⟨y, cs', hy, hlen, hc⟩)
  refine ⟨some a, cap, (List.range len).map F, by simp, by simpa using hl, hm, by simpa using hlr, fun i hi => ?_⟩
  have hi' : i < len := by simpa using hi
  obtain ⟨cs', h1, h2, hc⟩ := hF i hi'
  have hget : ((List.range len).map F)[i] = F i := by simp
  rw [hget]
  obtain ⟨v0, hv0⟩ := some_in h2 hK0
  have hc0 := (hc 0 hK0).trans hv0
  obtain ⟨b, o, sp⟩ := a
  cases sp with
  | some q =>
   obtain ⟨cs0, _, k2, kc⟩ := hF 0 (by omega)
   obtain ⟨u0, hu0⟩ := some_in k2 hK0
   exact absurd (World.cell?_spot ((kc 0 hK0).trans hu0)) (by simp [Addr.add])
  | none =>
   simp only [Go.WideShapes.add_plain] at hc hc0
   exact ⟨b, o, cs', rfl, World.block_lt_of_cell? W _ hc0, h1, h2, hc⟩
theorem row_of {α : Type} [Inhabited α] {K : Nat} {encE : α → List Value} {ok : α → Prop} {t e : TypeId} (hu : Tryz.prog.underlying t = some (.slice e)) (hK : Tryz.prog.cellsOf e = K) (hK0 : 0 < K) (hbb : 1 ≤ Tryz.prog.bytesOf e) (hone : ∀ (n : Nat) (cs : List Value) (x : DataW H × List MemPlace), DataW.trod enc Tryz.prog W base (fun _ => true) held n e cs = some x → Sm e x.1 → ∃ y, cs = encE y ∧ ok y) {fuel : Nat} {cs : List Value} {x : DataW H × List MemPlace} (h : DataW.trod enc Tryz.prog W base (fun _ => true) held fuel t cs = some x) (hs : Sm t x.1) : ∃ v xs, cs = [v] ∧ RowG K encE W v xs ∧ (∀ y ∈ xs, ok y) ∧ xs.length ≤ reachBytes ∧ v.oneCell' = true := by
 obtain ⟨ao, cap, xs, rfl, h1, h2, h3, h4⟩ := row_open (p := fun y cs => cs = encE y ∧ ok y) hu hK hK0 hbb hone h hs
 refine ⟨_, xs, rfl, ⟨ao, cap, rfl, h1, h2, fun i hi => ?_⟩, fun y hy => ?_, h3, rfl⟩
 ·obtain ⟨b, o, cs', e1, e2, ⟨e3, _⟩, _, e5⟩ := h4 i hi
  subst e3
  exact ⟨b, o, e1, e2, e5⟩
 ·obtain ⟨i, hi, rfl⟩ := List.getElem_of_mem hy
  obtain ⟨_, _, _, _, _, ⟨_, e4⟩, _⟩ := h4 i hi
  exact e4
theorem list_1 {α : Type} {cs : List α} {x0 : α} (h : cs.length = 1) (h0 : (cs.drop 0).take 1 = [x0]) : cs = [x0] := by
 match cs, h with
 | [a], _ => simp_all
theorem list_2 {α : Type} {cs : List α} {x0 x1 : α} (h : cs.length = 2) (h0 : (cs.drop 0).take 1 = [x0]) (h1 : (cs.drop 1).take 1 = [x1]) : cs = [x0, x1] := by
 match cs, h with
 | [a, b], _ => simp_all
theorem list_4 {α : Type} {cs : List α} {x0 x1 x2 x3 : α} (h : cs.length = 4) (h0 : (cs.drop 0).take 1 = [x0]) (h1 : (cs.drop 1).take 1 = [x1]) (h2 : (cs.drop 2).take 1 = [x2]) (h3 : (cs.drop 3).take 1 = [x3]) : cs = [x0, x1, x2, x3] := by
 match cs, h with
 | [a, b, c, d], _ => simp_all
theorem list_5 {α : Type} {cs : List α} {x0 x1 x2 x3 x4 : α} (h : cs.length = 5) (h0 : (cs.drop 0).take 1 = [x0]) (h1 : (cs.drop 1).take 1 = [x1]) (h2 : (cs.drop 2).take 1 = [x2]) (h3 : (cs.drop 3).take 1 = [x3]) (h4 : (cs.drop 4).take 1 = [x4]) : cs = [x0, x1, x2, x3, x4] := by
 match cs, h with
 | [a, b, c, d, e], _ => simp_all
theorem list_6 {α : Type} {cs : List α} {x0 x1 x2 x3 x4 x5 : α} (h : cs.length = 6) (h0 : (cs.drop 0).take 1 = [x0]) (h1 : (cs.drop 1).take 1 = [x1]) (h2 : (cs.drop 2).take 1 = [x2]) (h3 : (cs.drop 3).take 1 = [x3]) (h4 : (cs.drop 4).take 1 = [x4]) (h5 : (cs.drop 5).take 1 = [x5]) : cs = [x0, x1, x2, x3, x4, x5] := by
 match cs, h with
 | [a, b, c, d, e, f], _ => simp_all
theorem rg_opened {fuel : Nat} {cs : List Value} {x : DataW H × List MemPlace} (h : DataW.trod enc Tryz.prog W base (fun _ => true) held fuel 79 cs = some x) (hs : Sm 79 x.1) : ∃ y : Rg, cs = rgE y ∧ rgOk y := by
 obtain ⟨xs, n, _, hxe, hl, hlen, hf⟩ := DataW.trod_struct Tryz.underlying79 h
 have hlen' : xs.length = 2 := hlen
 rw [hxe] at hs
 have cS : Tryz.prog.cellsOf 79 = 2 := by kernel_rfl
 obtain ⟨y0, e0⟩ := some_in hlen' (show 0 < 2 by decide)
 obtain ⟨v0, h0, _, w0⟩ := DataW.trod_int Tryz.underlying26 ((hf 0 _ rfl).trans e0)
 change List.take (Tryz.prog.cellsOf 26) (List.drop 0 cs) = _ at h0
 rw [show Tryz.prog.cellsOf 26 = 1 from by kernel_rfl] at h0
 obtain ⟨v0, rfl, a0⟩ := u64_nat w0
 obtain ⟨y1, e1⟩ := some_in hlen' (show 1 < 2 by decide)
 obtain ⟨v1, h1, _, w1⟩ := DataW.trod_int Tryz.underlying26 ((hf 1 _ rfl).trans e1)
 change List.take (Tryz.prog.cellsOf 26) (List.drop 1 cs) = _ at h1
 rw [show Tryz.prog.cellsOf 26 = 1 from by kernel_rfl] at h1
 obtain ⟨v1, rfl, a1⟩ := u64_nat w1
 exact ⟨(v0, v1), list_2 (by rw [hl, cS]) h0 h1, a0, a1⟩
theorem st_opened {fuel : Nat} {cs : List Value} {x : DataW H × List MemPlace} (h : DataW.trod enc Tryz.prog W base (fun _ => true) held fuel 83 cs = some x) (hs : Sm 83 x.1) : ∃ y : (Int × Int), cs = stE y ∧ stOk y := by
 obtain ⟨xs, n, _, hxe, hl, hlen, hf⟩ := DataW.trod_struct Tryz.underlying83 h
 have hlen' : xs.length = 2 := hlen
 rw [hxe] at hs
 have cS : Tryz.prog.cellsOf 83 = 2 := by kernel_rfl
 obtain ⟨y0, e0⟩ := some_in hlen' (show 0 < 2 by decide)
 obtain ⟨v0, h0, _, w0⟩ := DataW.trod_int Tryz.underlying3 ((hf 0 _ rfl).trans e0)
 change List.take (Tryz.prog.cellsOf 3) (List.drop 0 cs) = _ at h0
 rw [show Tryz.prog.cellsOf 3 = 1 from by kernel_rfl] at h0
 have a0 := i64_in w0
 obtain ⟨y1, e1⟩ := some_in hlen' (show 1 < 2 by decide)
 obtain ⟨v1, h1, _, w1⟩ := DataW.trod_int Tryz.underlying3 ((hf 1 _ rfl).trans e1)
 change List.take (Tryz.prog.cellsOf 3) (List.drop 1 cs) = _ at h1
 rw [show Tryz.prog.cellsOf 3 = 1 from by kernel_rfl] at h1
 have a1 := i64_in w1
 exact ⟨(v0, v1), list_2 (by rw [hl, cS]) h0 h1, a0, a1⟩
theorem tn_opened {fuel : Nat} {cs : List Value} {x : DataW H × List MemPlace} (h : DataW.trod enc Tryz.prog W base (fun _ => true) held fuel 71 cs = some x) (hs : Sm 71 x.1) : ∃ y : Tn, cs = tnE y ∧ tnOk y := by
 obtain ⟨xs, n, _, hxe, hl, hlen, hf⟩ := DataW.trod_struct Tryz.underlying71 h
 have hlen' : xs.length = 6 := hlen
 rw [hxe] at hs
 have cS : Tryz.prog.cellsOf 71 = 6 := by kernel_rfl
 obtain ⟨y0, e0⟩ := some_in hlen' (show 0 < 6 by decide)
 obtain ⟨v0, h0, _, w0⟩ := DataW.trod_int Tryz.underlying3 ((hf 0 _ rfl).trans e0)
 change List.take (Tryz.prog.cellsOf 3) (List.drop 0 cs) = _ at h0
 rw [show Tryz.prog.cellsOf 3 = 1 from by kernel_rfl] at h0
 have a0 := i64_in w0
 obtain ⟨y1, e1⟩ := some_in hlen' (show 1 < 6 by decide)
 obtain ⟨v1, h1, _, w1⟩ := DataW.trod_int Tryz.underlying3 ((hf 1 _ rfl).trans e1)
 change List.take (Tryz.prog.cellsOf 3) (List.drop 1 cs) = _ at h1
 rw [show Tryz.prog.cellsOf 3 = 1 from by kernel_rfl] at h1
 have a1 := i64_in w1
 obtain ⟨y2, e2⟩ := some_in hlen' (show 2 < 6 by decide)
 obtain ⟨v2, h2, _⟩ := DataW.trod_bool Tryz.underlying4 ((hf 2 _ rfl).trans e2)
 change List.take (Tryz.prog.cellsOf 4) (List.drop 2 cs) = _ at h2
 rw [show Tryz.prog.cellsOf 4 = 1 from by kernel_rfl] at h2
 obtain ⟨y3, e3⟩ := some_in hlen' (show 3 < 6 by decide)
 obtain ⟨v3, h3, _, w3⟩ := DataW.trod_int Tryz.underlying3 ((hf 3 _ rfl).trans e3)
 change List.take (Tryz.prog.cellsOf 3) (List.drop 3 cs) = _ at h3
 rw [show Tryz.prog.cellsOf 3 = 1 from by kernel_rfl] at h3
 have a3 := i64_in w3
 obtain ⟨y4, e4⟩ := some_in hlen' (show 4 < 6 by decide)
 obtain ⟨v4, h4, _, w4⟩ := DataW.trod_int Tryz.underlying3 ((hf 4 _ rfl).trans e4)
 change List.take (Tryz.prog.cellsOf 3) (List.drop 4 cs) = _ at h4
 rw [show Tryz.prog.cellsOf 3 = 1 from by kernel_rfl] at h4
 have a4 := i64_in w4
 obtain ⟨y5, e5⟩ := some_in hlen' (show 5 < 6 by decide)
 obtain ⟨v5, h5, _, w5⟩ := DataW.trod_int Tryz.underlying3 ((hf 5 _ rfl).trans e5)
 change List.take (Tryz.prog.cellsOf 3) (List.drop 5 cs) = _ at h5
 rw [show Tryz.prog.cellsOf 3 = 1 from by kernel_rfl] at h5
 have a5 := i64_in w5
 exact ⟨⟨v0, v1, v2, v3, v4, v5⟩, list_6 (by rw [hl, cS]) h0 h1 h2 h3 h4 h5, a0, a1, a3, a4, a5⟩
theorem po_opened {fuel : Nat} {cs : List Value} {x : DataW H × List MemPlace} (h : DataW.trod enc Tryz.prog W base (fun _ => true) held fuel 73 cs = some x) (hs : Sm 73 x.1) : ∃ y : Int, cs = poE y ∧ I64R y := by
 obtain ⟨xs, n, _, hxe, hl, hlen, hf⟩ := DataW.trod_struct Tryz.underlying73 h
 have hlen' : xs.length = 1 := hlen
 rw [hxe] at hs
 have cS : Tryz.prog.cellsOf 73 = 1 := by kernel_rfl
 obtain ⟨y0, e0⟩ := some_in hlen' (show 0 < 1 by decide)
 obtain ⟨v0, h0, _, w0⟩ := DataW.trod_int Tryz.underlying3 ((hf 0 _ rfl).trans e0)
 change List.take (Tryz.prog.cellsOf 3) (List.drop 0 cs) = _ at h0
 rw [show Tryz.prog.cellsOf 3 = 1 from by kernel_rfl] at h0
 have a0 := i64_in w0
 exact ⟨v0, list_1 (by rw [hl, cS]) h0, a0⟩
theorem gd_opened {fuel : Nat} {cs : List Value} {x : DataW H × List MemPlace} (h : DataW.trod enc Tryz.prog W base (fun _ => true) held fuel 75 cs = some x) (hs : Sm 75 x.1) : ∃ y : Gd, cs = gdE y ∧ (gdW y ∧ y.txt.size ≤ reachBytes) := by
 obtain ⟨xs, n, _, hxe, hl, hlen, hf⟩ := DataW.trod_struct Tryz.underlying75 h
 have hlen' : xs.length = 4 := hlen
 rw [hxe] at hs
 have cS : Tryz.prog.cellsOf 75 = 4 := by kernel_rfl
 obtain ⟨y0, e0⟩ := some_in hlen' (show 0 < 4 by decide)
 obtain ⟨v0, h0, _, w0⟩ := DataW.trod_int Tryz.underlying26 ((hf 0 _ rfl).trans e0)
 change List.take (Tryz.prog.cellsOf 26) (List.drop 0 cs) = _ at h0
 rw [show Tryz.prog.cellsOf 26 = 1 from by kernel_rfl] at h0
 obtain ⟨v0, rfl, a0⟩ := u64_nat w0
 obtain ⟨y1, e1⟩ := some_in hlen' (show 1 < 4 by decide)
 obtain ⟨v1, h1, _, w1⟩ := DataW.trod_int Tryz.underlying26 ((hf 1 _ rfl).trans e1)
 change List.take (Tryz.prog.cellsOf 26) (List.drop 1 cs) = _ at h1
 rw [show Tryz.prog.cellsOf 26 = 1 from by kernel_rfl] at h1
 obtain ⟨v1, rfl, a1⟩ := u64_nat w1
 obtain ⟨y2, e2⟩ := some_in hlen' (show 2 < 4 by decide)
 obtain ⟨v2, h2, _, w2⟩ := DataW.trod_int Tryz.underlying5 ((hf 2 _ rfl).trans e2)
 change List.take (Tryz.prog.cellsOf 5) (List.drop 2 cs) = _ at h2
 rw [show Tryz.prog.cellsOf 5 = 1 from by kernel_rfl] at h2
 obtain ⟨v2, rfl, a2⟩ := u8_nat w2
 obtain ⟨y3, e3⟩ := some_in hlen' (show 3 < 4 by decide)
 obtain ⟨v3, h3, x3, _⟩ := DataW.trod_string Tryz.underlying9 ((hf 3 _ rfl).trans e3)
 have s3 := Sm.field Tryz.underlying75 hs (i := 3) rfl e3
 rw [x3] at s3
 have z3 := Sm.str s3
 change List.take (Tryz.prog.cellsOf 9) (List.drop 3 cs) = _ at h3
 rw [show Tryz.prog.cellsOf 9 = 1 from by kernel_rfl] at h3
 exact ⟨⟨v0, v1, v2, v3⟩, list_4 (by rw [hl, cS]) h0 h1 h2 h3, ⟨a0, a1, a2⟩, by rw [Array.length_toList] at z3; exact z3⟩
theorem lk_opened {fuel : Nat} {cs : List Value} {x : DataW H × List MemPlace} (h : DataW.trod enc Tryz.prog W base (fun _ => true) held fuel 81 cs = some x) (hs : Sm 81 x.1) : ∃ y : Lk, cs = lkE y ∧ lkOk y := by
 obtain ⟨xs, n, _, hxe, hl, hlen, hf⟩ := DataW.trod_struct Tryz.underlying81 h
 have hlen' : xs.length = 5 := hlen
 rw [hxe] at hs
 have cS : Tryz.prog.cellsOf 81 = 5 := by kernel_rfl
 obtain ⟨y0, e0⟩ := some_in hlen' (show 0 < 5 by decide)
 obtain ⟨v0, h0, _, w0⟩ := DataW.trod_int Tryz.underlying3 ((hf 0 _ rfl).trans e0)
 change List.take (Tryz.prog.cellsOf 3) (List.drop 0 cs) = _ at h0
 rw [show Tryz.prog.cellsOf 3 = 1 from by kernel_rfl] at h0
 have a0 := i64_in w0
 obtain ⟨y1, e1⟩ := some_in hlen' (show 1 < 5 by decide)
 obtain ⟨v1, h1, _, w1⟩ := DataW.trod_int Tryz.underlying3 ((hf 1 _ rfl).trans e1)
 change List.take (Tryz.prog.cellsOf 3) (List.drop 1 cs) = _ at h1
 rw [show Tryz.prog.cellsOf 3 = 1 from by kernel_rfl] at h1
 have a1 := i64_in w1
 obtain ⟨y2, e2⟩ := some_in hlen' (show 2 < 5 by decide)
 obtain ⟨v2, h2, _, w2⟩ := DataW.trod_int Tryz.underlying3 ((hf 2 _ rfl).trans e2)
 change List.take (Tryz.prog.cellsOf 3) (List.drop 2 cs) = _ at h2
 rw [show Tryz.prog.cellsOf 3 = 1 from by kernel_rfl] at h2
 have a2 := i64_in w2
 obtain ⟨y3, e3⟩ := some_in hlen' (show 3 < 5 by decide)
 obtain ⟨v3, h3, _, w3⟩ := DataW.trod_int Tryz.underlying3 ((hf 3 _ rfl).trans e3)
 change List.take (Tryz.prog.cellsOf 3) (List.drop 3 cs) = _ at h3
 rw [show Tryz.prog.cellsOf 3 = 1 from by kernel_rfl] at h3
 have a3 := i64_in w3
 obtain ⟨y4, e4⟩ := some_in hlen' (show 4 < 5 by decide)
 obtain ⟨v4, h4, _⟩ := DataW.trod_bool Tryz.underlying4 ((hf 4 _ rfl).trans e4)
 change List.take (Tryz.prog.cellsOf 4) (List.drop 4 cs) = _ at h4
 rw [show Tryz.prog.cellsOf 4 = 1 from by kernel_rfl] at h4
 exact ⟨⟨v0, v1, v2, v3, v4⟩, list_5 (by rw [hl, cS]) h0 h1 h2 h3 h4, a0, a1, a2, a3⟩
theorem lane_opened {fuel : Nat} {cs : List Value} {x : DataW H × List MemPlace} (h : DataW.trod enc Tryz.prog W base (fun _ => true) held fuel 84 cs = some x) (hs : Sm 84 x.1) : ∃ v xs, cs = [v] ∧ RowG 2 stE W v xs ∧ (∀ y ∈ xs, stOk y) ∧ xs.length ≤ reachBytes ∧ v.oneCell' = true :=
 haveI : Inhabited (Int × Int) := ⟨(0, 0)⟩
 row_of Tryz.underlying84 (by kernel_rfl) (by decide) (of_decide_eq_true (by kernel_rfl)) (fun n cs x h hs => st_opened h hs) h hs
theorem lanes_opened {fuel : Nat} {cs : List Value} {x : DataW H × List MemPlace} (h : DataW.trod enc Tryz.prog W base (fun _ => true) held fuel 85 cs = some x) (hs : Sm 85 x.1) : ∃ v ls, cs = [v] ∧ LnG W v ls ∧ (∀ l ∈ ls, lnOk l ∧ l.length ≤ reachBytes) ∧ ls.length ≤ reachBytes := by
 obtain ⟨ao, cap, xs, rfl, h1, h2, h3, h4⟩ := row_open (α := List (Int × Int)) (p := fun l cs => ∃ u, cs = [u] ∧ RowG 2 stE W u l ∧ lnOk l ∧ l.length ≤ reachBytes) Tryz.underlying85 (K := 1) (by kernel_rfl) (by decide) (of_decide_eq_true (by kernel_rfl)) (fun n cs x h hs => by
  obtain ⟨v, ys, e, r, o, l, _⟩ := lane_opened h hs
  exact ⟨ys, v, e, r, o, l⟩) h hs
 refine ⟨_, xs, rfl, ⟨ao, cap, rfl, h1, h2, fun i hi => ?_⟩, fun y hy => ?_, h3⟩
 ·obtain ⟨b, o, cs', e1, e2, ⟨u, rfl, hr, _⟩, _, e5⟩ := h4 i hi
  have := e5 0 (by decide)
  rw [Nat.mul_one, Nat.add_zero] at this
  exact ⟨b, o, u, e1, this, hr⟩
 ·obtain ⟨i, hi, rfl⟩ := List.getElem_of_mem hy
  obtain ⟨_, _, _, _, _, ⟨_, _, _, e4⟩, _⟩ := h4 i hi
  exact e4
theorem sc_opened {fuel : Nat} {cs : List Value} {x : DataW H × List MemPlace} (h : DataW.trod enc Tryz.prog W base (fun _ => true) held fuel 87 cs = some x) (hs : Sm 87 x.1) : ∃ y : Sc, ∃ v, cs = [.int .i64 y.maj, v] ∧ LnG W v y.lanes ∧ scOk y ∧ y.lanes.length ≤ reachBytes ∧ ∀ l ∈ y.lanes, l.length ≤ reachBytes := by
 obtain ⟨xs, n, _, hxe, hl, hlen, hf⟩ := DataW.trod_struct Tryz.underlying87 h
 have hlen' : xs.length = 2 := hlen
 rw [hxe] at hs
 have cS : Tryz.prog.cellsOf 87 = 2 := by kernel_rfl
 obtain ⟨y0, e0⟩ := some_in hlen' (show 0 < 2 by decide)
 obtain ⟨y1, e1⟩ := some_in hlen' (show 1 < 2 by decide)
 obtain ⟨v0, h0, _, w0⟩ := DataW.trod_int Tryz.underlying3 ((hf 0 _ rfl).trans e0)
 obtain ⟨v1, ls, h1, r1, o1, l1⟩ := lanes_opened ((hf 1 _ rfl).trans e1) (Sm.field Tryz.underlying87 hs (i := 1) rfl e1)
 change List.take (Tryz.prog.cellsOf 3) (List.drop 0 cs) = _ at h0
 rw [show Tryz.prog.cellsOf 3 = 1 from by kernel_rfl] at h0
 change List.take (Tryz.prog.cellsOf 85) (List.drop 1 cs) = _ at h1
 rw [show Tryz.prog.cellsOf 85 = 1 from by kernel_rfl] at h1
 exact ⟨⟨v0, ls⟩, v1, list_2 (by rw [hl, cS]) h0 h1, r1, ⟨i64_in w0, fun l hl => (o1 l hl).1⟩, l1, fun l hl => (o1 l hl).2⟩
theorem plans_opened {fuel : Nat} {cs : List Value} {x : DataW H × List MemPlace} (h : DataW.trod enc Tryz.prog W base (fun _ => true) held fuel 34 cs = some x) (hs : Sm 34 x.1) : ∃ v ps, cs = [v] ∧ PlG W v ps ∧ (∀ p ∈ ps, scOk p ∧ p.lanes.length ≤ reachBytes ∧ ∀ l ∈ p.lanes, l.length ≤ reachBytes) ∧ ps.length ≤ reachBytes ∧ v.oneCell' = true := by
 haveI : Inhabited Sc := ⟨⟨0, []⟩⟩
 obtain ⟨ao, cap, xs, rfl, h1, h2, h3, h4⟩ := row_open (α := Sc) (p := fun y cs => ∃ v, cs = [.int .i64 y.maj, v] ∧ LnG W v y.lanes ∧ scOk y ∧ y.lanes.length ≤ reachBytes ∧ ∀ l ∈ y.lanes, l.length ≤ reachBytes) Tryz.underlying34 (K := 2) (by kernel_rfl) (by decide) (of_decide_eq_true (by kernel_rfl)) (fun n cs x h hs => sc_opened h hs) h hs
 refine ⟨_, xs, rfl, ⟨ao, cap, rfl, h1, h2, fun i hi => ?_⟩, fun y hy => ?_, h3, rfl⟩
 ·obtain ⟨b, o, cs', e1, e2, ⟨u, rfl, hr, _⟩, _, e5⟩ := h4 i hi
  have c0 := e5 0 (by decide)
  have c1 := e5 1 (by decide)
  rw [Nat.add_zero] at c0
  exact ⟨b, o, u, e1, c0, c1, hr⟩
 ·obtain ⟨i, hi, rfl⟩ := List.getElem_of_mem hy
  obtain ⟨_, _, _, _, _, ⟨_, _, _, e4⟩, _⟩ := h4 i hi
  exact e4
theorem tab_opened {fuel : Nat} {cs : List Value} {x : DataW H × List MemPlace} (h : DataW.trod enc Tryz.prog W base (fun _ => true) held fuel 77 cs = some x) : ∃ f : Nat → Nat, (∀ p, p < 512 → cs[p]? = some (.int .u64 (f p : Int))) ∧ tbOk f := by
 have hu : Tryz.prog.underlying 77 = some (.array 512 26) := by kernel_rfl
 obtain ⟨xs, n, _, hxe, hl, hlen, hf⟩ := DataW.trod_array hu h
 have c1 : Tryz.prog.cellsOf 26 = 1 := by kernel_rfl
 obtain ⟨F, hF⟩ := Go.Deep.choose_lt (α := Nat) (n := 512) (p := fun i y => cs[i]? = some (.int .u64 (y : Int)) ∧ y ≤ 18446744073709551615) (fun i hi => by
  obtain ⟨y, e⟩ := some_in hlen hi
  obtain ⟨v, hv, _, wv⟩ := DataW.trod_int Tryz.underlying26 ((hf i hi).trans e)
  rw [c1, Nat.mul_one] at hv
  obtain ⟨v, rfl, a⟩ := u64_nat wv
  refine ⟨v, ?_, a⟩
  have := congrArg (fun l => l[0]?) hv
  simpa [List.getElem?_take, List.getElem?_drop] using this)
 exact ⟨F, fun p hp => (hF p hp).1, fun p hp => (hF p hp).2⟩
theorem tabs_opened {fuel : Nat} {cs : List Value} {x : DataW H × List MemPlace} (h : DataW.trod enc Tryz.prog W base (fun _ => true) held fuel 35 cs = some x) (hs : Sm 35 x.1) : ∃ v fs, cs = [v] ∧ TbG W v fs ∧ (∀ f ∈ fs, tbOk f) ∧ fs.length ≤ reachBytes ∧ v.oneCell' = true := by
 obtain ⟨ao, cap, xs, rfl, h1, h2, h3, h4⟩ := row_open (α := Nat → Nat) (p := fun f cs => (∀ p, p < 512 → cs[p]? = some (.int .u64 (f p : Int))) ∧ tbOk f) Tryz.underlying35 (K := 512) (by kernel_rfl) (by decide) (of_decide_eq_true (by kernel_rfl)) (fun n cs x h hs => tab_opened h) h hs
 refine ⟨_, xs, rfl, ⟨ao, cap, rfl, h1, h2, fun i hi => ?_⟩, fun y hy => ?_, h3, rfl⟩
 ·obtain ⟨b, o, cs', e1, e2, ⟨hp, _⟩, _, e5⟩ := h4 i hi
  exact ⟨b, o, e1, fun p hp' => (e5 p hp').trans (hp p hp')⟩
 ·obtain ⟨i, hi, rfl⟩ := List.getElem_of_mem hy
  obtain ⟨_, _, _, _, _, ⟨_, e4⟩, _⟩ := h4 i hi
  exact e4
theorem rgs_opened {fuel : Nat} {cs : List Value} {x : DataW H × List MemPlace} (h : DataW.trod enc Tryz.prog W base (fun _ => true) held fuel 27 cs = some x) (hs : Sm 27 x.1) : ∃ v xs, cs = [v] ∧ RowG 2 rgE W v xs ∧ (∀ y ∈ xs, rgOk y) ∧ xs.length ≤ reachBytes ∧ v.oneCell' = true :=
 haveI : Inhabited Rg := ⟨(0, 0)⟩
 row_of (ok := fun y => rgOk y) Tryz.underlying27 (by kernel_rfl) (by decide) (of_decide_eq_true (by kernel_rfl)) (fun n cs x h hs => rg_opened h hs) h hs
theorem tns_opened {fuel : Nat} {cs : List Value} {x : DataW H × List MemPlace} (h : DataW.trod enc Tryz.prog W base (fun _ => true) held fuel 30 cs = some x) (hs : Sm 30 x.1) : ∃ v xs, cs = [v] ∧ RowG 6 tnE W v xs ∧ (∀ y ∈ xs, tnOk y) ∧ xs.length ≤ reachBytes ∧ v.oneCell' = true :=
 haveI : Inhabited Tn := ⟨⟨0, 0, false, 0, 0, 0⟩⟩
 row_of (ok := fun y => tnOk y) Tryz.underlying30 (by kernel_rfl) (by decide) (of_decide_eq_true (by kernel_rfl)) (fun n cs x h hs => tn_opened h hs) h hs
theorem pos_opened {fuel : Nat} {cs : List Value} {x : DataW H × List MemPlace} (h : DataW.trod enc Tryz.prog W base (fun _ => true) held fuel 31 cs = some x) (hs : Sm 31 x.1) : ∃ v xs, cs = [v] ∧ RowG 1 poE W v xs ∧ (∀ y ∈ xs, I64R y) ∧ xs.length ≤ reachBytes ∧ v.oneCell' = true :=
 haveI : Inhabited Int := ⟨0⟩
 row_of (ok := fun y => I64R y) Tryz.underlying31 (by kernel_rfl) (by decide) (of_decide_eq_true (by kernel_rfl)) (fun n cs x h hs => po_opened h hs) h hs
theorem gds_opened {fuel : Nat} {cs : List Value} {x : DataW H × List MemPlace} (h : DataW.trod enc Tryz.prog W base (fun _ => true) held fuel 32 cs = some x) (hs : Sm 32 x.1) : ∃ v xs, cs = [v] ∧ RowG 4 gdE W v xs ∧ (∀ y ∈ xs, (gdW y ∧ y.txt.size ≤ reachBytes)) ∧ xs.length ≤ reachBytes ∧ v.oneCell' = true :=
 haveI : Inhabited Gd := ⟨⟨0, 0, 0, .empty⟩⟩
 row_of (ok := fun y => (gdW y ∧ y.txt.size ≤ reachBytes)) Tryz.underlying32 (by kernel_rfl) (by decide) (of_decide_eq_true (by kernel_rfl)) (fun n cs x h hs => gd_opened h hs) h hs
theorem lks_opened {fuel : Nat} {cs : List Value} {x : DataW H × List MemPlace} (h : DataW.trod enc Tryz.prog W base (fun _ => true) held fuel 33 cs = some x) (hs : Sm 33 x.1) : ∃ v xs, cs = [v] ∧ RowG 5 lkE W v xs ∧ (∀ y ∈ xs, lkOk y) ∧ xs.length ≤ reachBytes ∧ v.oneCell' = true :=
 haveI : Inhabited Lk := ⟨⟨0, 0, 0, 0, false⟩⟩
 row_of (ok := fun y => lkOk y) Tryz.underlying33 (by kernel_rfl) (by decide) (of_decide_eq_true (by kernel_rfl)) (fun n cs x h hs => lk_opened h hs) h hs
theorem bus_opened {fuel : Nat} {cs : List Value} {x : DataW H × List MemPlace} (h : DataW.trod enc Tryz.prog W base (fun _ => true) held fuel 29 cs = some x) (hs : Sm 29 x.1) : ∃ u v xs ys, cs = [u, v] ∧ RowG 2 rgE W u xs ∧ (∀ y ∈ xs, rgOk y) ∧ xs.length ≤ reachBytes ∧ u.oneCell' = true ∧ RowG 2 rgE W v ys ∧ (∀ y ∈ ys, rgOk y) ∧ ys.length ≤ reachBytes ∧ v.oneCell' = true := by
 obtain ⟨xs, n, _, hxe, hl, hlen, hf⟩ := DataW.trod_struct Tryz.underlying29 h
 have hlen' : xs.length = 2 := hlen
 rw [hxe] at hs
 have cS : Tryz.prog.cellsOf 29 = 2 := by kernel_rfl
 obtain ⟨y0, e0⟩ := some_in hlen' (show 0 < 2 by decide)
 obtain ⟨y1, e1⟩ := some_in hlen' (show 1 < 2 by decide)
 obtain ⟨v0, l0, h0, r0, o0, b0, c0⟩ := rgs_opened ((hf 0 _ rfl).trans e0) (Sm.field Tryz.underlying29 hs (i := 0) rfl e0)
 obtain ⟨v1, l1, h1, r1, o1, b1, c1⟩ := rgs_opened ((hf 1 _ rfl).trans e1) (Sm.field Tryz.underlying29 hs (i := 1) rfl e1)
 change List.take (Tryz.prog.cellsOf 27) (List.drop 0 cs) = _ at h0
 change List.take (Tryz.prog.cellsOf 27) (List.drop 1 cs) = _ at h1
 rw [show Tryz.prog.cellsOf 27 = 1 from by kernel_rfl] at h0 h1
 exact ⟨v0, v1, l0, l1, list_2 (by rw [hl, cS]) h0 h1, r0, o0, b0, c0, r1, o1, b1, c1⟩
theorem list_im {cs : List Value} {x0 x1 x2 x3 x4 x5 x6 x7 x8 x9 x10 x11 : Value} (h : cs.length = 12) (h0 : (cs.drop 0).take 1 = [x0]) (h1 : (cs.drop 1).take 2 = [x1, x2]) (h3 : (cs.drop 3).take 1 = [x3]) (h4 : (cs.drop 4).take 1 = [x4]) (h5 : (cs.drop 5).take 1 = [x5]) (h6 : (cs.drop 6).take 1 = [x6]) (h7 : (cs.drop 7).take 1 = [x7]) (h8 : (cs.drop 8).take 1 = [x8]) (h9 : (cs.drop 9).take 1 = [x9]) (h10 : (cs.drop 10).take 1 = [x10]) (h11 : (cs.drop 11).take 1 = [x11]) : cs = [x0, x1, x2, x3, x4, x5, x6, x7, x8, x9, x10, x11] := by
 obtain ⟨a0, a1, a2, a3, a4, a5, a6, a7, a8, a9, b0, b1, rfl⟩ := list12 h
 simp_all
set_option maxRecDepth 100000 in
theorem im_opened {fuel : Nat} {cs : List Value} {x : DataW H × List MemPlace} (h : DataW.trod enc Tryz.prog W base (fun _ => true) held fuel 37 cs = some x) (hs : Sm 37 x.1) : ∃ I, ImW W cs I := by
 obtain ⟨xs, n, _, hxe, hl, hlen, hf⟩ := DataW.trod_struct Tryz.underlying37 h
 have hlen' : xs.length = 11 := hlen
 rw [hxe] at hs
 have cS : Tryz.prog.cellsOf 37 = 12 := by kernel_rfl
 obtain ⟨y0, e0⟩ := some_in hlen' (show 0 < 11 by decide)
 obtain ⟨v0, h0, _, w0⟩ := DataW.trod_int Tryz.underlying26 ((hf 0 _ rfl).trans e0)
 change List.take (Tryz.prog.cellsOf 26) (List.drop 0 cs) = _ at h0
 rw [show Tryz.prog.cellsOf 26 = 1 from by kernel_rfl] at h0
 obtain ⟨y1, e1⟩ := some_in hlen' (show 1 < 11 by decide)
 obtain ⟨v1, v2, l1, l2, h1, r1, o1, b1, c1, r2, o2, b2, c2⟩ := bus_opened ((hf 1 _ rfl).trans e1) (Sm.field Tryz.underlying37 hs (i := 1) rfl e1)
 change List.take (Tryz.prog.cellsOf 29) (List.drop 1 cs) = _ at h1
 rw [show Tryz.prog.cellsOf 29 = 2 from by kernel_rfl] at h1
 obtain ⟨y2, e2⟩ := some_in hlen' (show 2 < 11 by decide)
 obtain ⟨v3, l3, h3, r3, o3, b3, c3⟩ := tns_opened ((hf 2 _ rfl).trans e2) (Sm.field Tryz.underlying37 hs (i := 2) rfl e2)
 change List.take (Tryz.prog.cellsOf 30) (List.drop 3 cs) = _ at h3
 rw [show Tryz.prog.cellsOf 30 = 1 from by kernel_rfl] at h3
 obtain ⟨y3, e3⟩ := some_in hlen' (show 3 < 11 by decide)
 obtain ⟨v4, l4, h4, r4, o4, b4, c4⟩ := pos_opened ((hf 3 _ rfl).trans e3) (Sm.field Tryz.underlying37 hs (i := 3) rfl e3)
 change List.take (Tryz.prog.cellsOf 31) (List.drop 4 cs) = _ at h4
 rw [show Tryz.prog.cellsOf 31 = 1 from by kernel_rfl] at h4
 obtain ⟨y4, e4⟩ := some_in hlen' (show 4 < 11 by decide)
 obtain ⟨v5, l5, h5, r5, o5, b5, c5⟩ := gds_opened ((hf 4 _ rfl).trans e4) (Sm.field Tryz.underlying37 hs (i := 4) rfl e4)
 change List.take (Tryz.prog.cellsOf 32) (List.drop 5 cs) = _ at h5
 rw [show Tryz.prog.cellsOf 32 = 1 from by kernel_rfl] at h5
 obtain ⟨y5, e5⟩ := some_in hlen' (show 5 < 11 by decide)
 obtain ⟨v6, l6, h6, r6, o6, b6, c6⟩ := lks_opened ((hf 5 _ rfl).trans e5) (Sm.field Tryz.underlying37 hs (i := 5) rfl e5)
 change List.take (Tryz.prog.cellsOf 33) (List.drop 6 cs) = _ at h6
 rw [show Tryz.prog.cellsOf 33 = 1 from by kernel_rfl] at h6
 obtain ⟨y6, e6⟩ := some_in hlen' (show 6 < 11 by decide)
 obtain ⟨v7, l7, h7, r7, o7, b7, c7⟩ := lks_opened ((hf 6 _ rfl).trans e6) (Sm.field Tryz.underlying37 hs (i := 6) rfl e6)
 change List.take (Tryz.prog.cellsOf 33) (List.drop 7 cs) = _ at h7
 rw [show Tryz.prog.cellsOf 33 = 1 from by kernel_rfl] at h7
 obtain ⟨y7, e7⟩ := some_in hlen' (show 7 < 11 by decide)
 obtain ⟨v8, l8, h8, r8, o8, b8, c8⟩ := plans_opened ((hf 7 _ rfl).trans e7) (Sm.field Tryz.underlying37 hs (i := 7) rfl e7)
 change List.take (Tryz.prog.cellsOf 34) (List.drop 8 cs) = _ at h8
 rw [show Tryz.prog.cellsOf 34 = 1 from by kernel_rfl] at h8
 obtain ⟨y8, e8⟩ := some_in hlen' (show 8 < 11 by decide)
 obtain ⟨v9, h9, _, w9⟩ := DataW.trod_int Tryz.underlying3 ((hf 8 _ rfl).trans e8)
 change List.take (Tryz.prog.cellsOf 3) (List.drop 9 cs) = _ at h9
 rw [show Tryz.prog.cellsOf 3 = 1 from by kernel_rfl] at h9
 obtain ⟨y9, e9⟩ := some_in hlen' (show 9 < 11 by decide)
 obtain ⟨v10, h10, _, w10⟩ := DataW.trod_int Tryz.underlying3 ((hf 9 _ rfl).trans e9)
 change List.take (Tryz.prog.cellsOf 3) (List.drop 10 cs) = _ at h10
 rw [show Tryz.prog.cellsOf 3 = 1 from by kernel_rfl] at h10
 obtain ⟨y10, e10⟩ := some_in hlen' (show 10 < 11 by decide)
 obtain ⟨v11, l11, h11, r11, o11, b11, c11⟩ := tabs_opened ((hf 10 _ rfl).trans e10) (Sm.field Tryz.underlying37 hs (i := 10) rfl e10)
 change List.take (Tryz.prog.cellsOf 35) (List.drop 11 cs) = _ at h11
 rw [show Tryz.prog.cellsOf 35 = 1 from by kernel_rfl] at h11
 obtain ⟨v0, rfl, a0⟩ := u64_nat w0
 have a9 := i64_in w9
 have a10 := i64_in w10
 have ci : ∀ k n, (Value.int k n).oneCell' = true := fun _ _ => rfl
 have hcs := list_im (by rw [hl, cS]) h0 h1 h3 h4 h5 h6 h7 h8 h9 h10 h11
 have hr : reachBytes = 140737488351232 := rfl
 rw [hr] at b1 b2 b3 b4 b5 b6 b7 b8 b11
 rw [hcs]
 exact ⟨⟨v0, l1, l2, l3, l4, l5, l6, l7, l8, v9, v10, l11⟩, ⟨rfl, a0⟩, ⟨v1, rfl, r1, o1⟩, ⟨v2, rfl, r2, o2⟩, ⟨v3, rfl, r3, o3⟩, ⟨v4, rfl, r4, o4⟩, ⟨v5, rfl, r5, fun x hx => (o5 x hx).1⟩, ⟨v6, rfl, r6, o6⟩, ⟨v7, rfl, r7, o7⟩, ⟨v8, rfl, r8, fun x hx => (o8 x hx).1⟩, ⟨rfl, a9⟩, ⟨rfl, a10⟩, ⟨v11, rfl, r11, o11⟩, rfl, by simp [c1, c2, c3, c4, c5, c6, c7, c8, c11, ci],
  ⟨by simp only; omega, by simp only; omega, by simp only; omega, by simp only; omega, by simp only; omega, by simp only; omega, by simp only; omega, by simp only; omega, by simp only; omega, fun x hx => by have := (o5 x hx).2; omega, fun p hp => by
   have := (o8 p hp).2
   exact ⟨by have := this.1; omega, fun l hl => by have := this.2 l hl; omega⟩⟩⟩
end
end Go.Proofs.YtnifefmfhjfbnaaGreatDoor
/- BundleBursts: its row and its card. Own work. -/
namespace Go.Proofs.YtnifefmfhjfbnaaGreatDoor.bundleBursts
open Go.ChangeShapes Go.WideShapes Go.ChangeAt Go.RowKit
open Go.ChangeMaps (open_string shut_string)
set_option maxRecDepth 100000 in
theorem contract (H : Type) (enc : TypeId × Value → H) (W : World) (base : Nat) (args : Array Value) (ds gs : List (DataW H)) (before : List MemPlace)
  (hval : ∀ (j : Nat) t v, Tryz.f6.params[j]? = some t → args[j]? = some v → Value.okWide Tryz.prog W .any base t v)
  (hW : DataW.Whole enc Tryz.prog Tryz.f6.params.toList Rows.bundleBurstsSpec.vars false W args.toList ds gs before)
  (hsz : (DataW.weightsEach Tryz.prog (Tryz.f6.params.toList ++ (OpenSpec.ofChange Rows.bundleBurstsSpec).bare.plain.varTypes Tryz.prog) (ds ++ gs)).all (· ≤ reachBytes) = true) (hL : laidMetH Tryz.prog Rows.bundleBurstsRow.laid W) :
  Calls Tryz.prog 6 args W fun e W' => ∃ v, e = .returned v ∧ Rows.bundleBurstsSpec.post enc Tryz.prog Tryz.f6 false true false false W args v W' := by
 have hW' := hW
 obtain ⟨p, q, hA0, hV, rfl, hfz, hnd⟩ := hW
 have hA : DataW.TrodAll enc Tryz.prog W 0 (fun _ => true) true Tryz.f6.params.toList args.toList ds p := hA0
 rw [Tryz.params6] at hA hval hsz
 obtain ⟨v0, vs0, d0, ds0, p0, q0, hargs, rfl, rfl, h0, r0⟩ := trodAll_cons hA
 obtain ⟨v1, vs1, d1, ds1, p1, q1, rfl, rfl, rfl, h1, r1⟩ := trodAll_cons r0
 obtain ⟨v2, vs2, d2, ds2, p2, q2, rfl, rfl, rfl, h2, r2⟩ := trodAll_cons r1
 obtain ⟨v3, vs3, d3, ds3, p3, q3, rfl, rfl, rfl, h3, r3⟩ := trodAll_cons r2
 obtain ⟨rfl, rfl, rfl⟩ := trodAll_nil r3
 obtain rfl : args = #[v0, v1, v2, v3] := by cases args; simp_all
 obtain ⟨c0, rfl, _⟩ := okWide_struct Tryz.underlying37 (hval 0 37 v0 rfl rfl)
 have k0 := h0
 have lt0 : ∀ x ∈ p0, x.block < W.heap.size := by obtain ⟨m, hm⟩ := k0; exact DataW.trod_lt m _ _ _ hm
 have S0 : Sm 37 d0 := fun n hn => of_decide_eq_true (List.all_eq_true.1 hsz n (DataW.weights_mem_each (j := 0) rfl rfl n hn))
 obtain ⟨I, hI⟩ : ∃ I, ImW W c0.toList I := by
  obtain ⟨fuel, hf⟩ := h0
  exact im_opened hf S0
 obtain ⟨rfl, rfl⟩ := trodVars_none hV
 obtain ⟨a1, rfl, rfl, rfl, w1⟩ := open_int Tryz.underlying3 (hval 1 3 v1 rfl rfl) h1
 obtain ⟨a2, rfl, rfl, rfl, w2⟩ := open_int Tryz.underlying3 (hval 2 3 v2 rfl rfl) h2
 obtain ⟨a3, rfl, rfl, rfl, w3⟩ := open_int Tryz.underlying51 (hval 3 51 v3 rfl rfl) h3
 obtain ⟨c0', c1'⟩ := bounds_u32 w3
 obtain ⟨pt, rfl⟩ := Int.eq_ofNat_of_zero_le c0'
 clear hA0
 have ht := tab_of hL
 have hwalk := bundleBursts_walk (sc := a1) (at_ := a2) (pat := pt) ht hI (by omega)
 rw [Array.toArray_toList] at hwalk
 refine hwalk.mono fun e W' ⟨he, bel⟩ => ?_
 subst he
 exact ⟨_, rfl, _, _, _, [], _, [], hW', trodAll_mk1 (shut_bool Tryz.underlying4 _), (trodAll_cons_mk (Below.trod laidOut (by kernel_rfl) (of_decide_eq_true (by kernel_rfl)) k0 bel lt0) (trodAll_cons_mk (shut_int Tryz.underlying3 w1) (trodAll_cons_mk (shut_int Tryz.underlying3 w2) (trodAll_cons_mk (shut_int Tryz.underlying51 w3) trodAll_mk0)))), rfl, bel.frame _, fun h => by cases h⟩

theorem laid_met (os : Os) : laidMet Tryz.prog Rows.bundleBurstsRow.laid ((laidWorld os).forCall (fun _ _ => 0) ⟨#[], #[.agg #[.int .u64 0, .slice none 0 0, .slice none 0 0, .slice none 0 0, .slice none 0 0, .slice none 0 0, .slice none 0 0, .slice none 0 0, .slice none 0 0, .int .i64 0, .int .i64 0, .slice none 0 0], .int .i64 0, .int .i64 0, .int .u32 0], []⟩).memory :=
 laidMet_of_run' 8 (by kernel_rfl) (by kernel_rfl)
theorem reads (os : Os) {H : Type} (enc : TypeId × Value → H) : ∃ places, DataW.whole enc Tryz.prog ((laidWorld os).forCall (fun _ _ => 0) ⟨#[], #[.agg #[.int .u64 0, .slice none 0 0, .slice none 0 0, .slice none 0 0, .slice none 0 0, .slice none 0 0, .slice none 0 0, .slice none 0 0, .slice none 0 0, .int .i64 0, .int .i64 0, .slice none 0 0], .int .i64 0, .int .i64 0, .int .u32 0], []⟩).memory Tryz.f6.params.toList Rows.bundleBurstsSpec.vars false (#[.agg #[.int .u64 0, .slice none 0 0, .slice none 0 0, .slice none 0 0, .slice none 0 0, .slice none 0 0, .slice none 0 0, .slice none 0 0, .slice none 0 0, .int .i64 0, .int .i64 0, .slice none 0 0], .int .i64 0, .int .i64 0, .int .u32 0] : Array Value).toList 8 = some ([.agg [.lit (.int .u64 0), .agg [.nil, .nil], .nil, .nil, .nil, .nil, .nil, .nil, .lit (.int .i64 0), .lit (.int .i64 0), .nil], .lit (.int .i64 0), .lit (.int .i64 0), .lit (.int .u32 0)], [], places) :=
 ⟨[], by kernel_rfl⟩
set_option maxRecDepth 100000 in
theorem lifted (os : Os) (started : os.Started) (H : Type) (enc : TypeId × Value → H) (F : Stop.Interp) :
  ReturnsInHanded {} Tryz.checked os 6 .any ((OpenSpec.ofChange Rows.bundleBurstsSpec).preRow enc Tryz.prog Tryz.f6 Rows.bundleBurstsRow.domain false Rows.bundleBurstsRow.laid) (((OpenSpec.ofChange Rows.bundleBurstsSpec).at F).post enc Tryz.prog Tryz.f6 false true false false) := by
 obtain ⟨places, hx⟩ := reads os enc
 refine returnsInHanded_of_row (C := Tryz.checked) (s := OpenSpec.ofChange Rows.bundleBurstsSpec) ownKnobs started (by kernel_rfl) Tryz.func6
  (witness_row_at (enc := enc) (C := Tryz.checked) false (laidWorld os) #[.agg #[.int .u64 0, .slice none 0 0, .slice none 0 0, .slice none 0 0, .slice none 0 0, .slice none 0 0, .slice none 0 0, .slice none 0 0, .slice none 0 0, .int .i64 0, .int .i64 0, .slice none 0 0], .int .i64 0, .int .i64 0, .int .u32 0] rfl (by kernel_rfl) (by kernel_rfl) (by kernel_rfl)
   (OpenSpec.preRow_of_cond 8 hx (by kernel_rfl) (fun k hk => by cases hk) (by kernel_rfl) (laid_met os))) ?_
 intro W base args ds gs before hval hW _ _ hsz hL _ _
 exact contract H enc W base args ds gs before hval hW hsz hL
theorem said : Rows.BundleBurstsSaid :=
 OpenClaim.holds_of_cond 6 Tryz.f6 rfl rfl rfl rfl rfl rfl rfl ⟨rfl, rfl, rfl, rfl, rfl⟩ rfl rfl rfl rfl rfl (by kernel_rfl) Tryz.func6 (by kernel_rfl)
  (of_decide_eq_true (by kernel_rfl)) (by unfold Func.isWrapper; first | (rw [if_pos (by decide +kernel)]; kernel_rfl) | (rw [if_neg (by decide +kernel)]; exact ⟨rfl, rfl⟩))
  (fun os started H enc _ F => by rw [OpenClaim.pre_eq_preRow]; exact lifted os started H enc F)
theorem plain (f : FuncId) (fn : Func) (hf : Tryz.pinned.checked.prog.funcNamed "bulkhead/bulkheadlaw13.BundleBursts" = some f) (hfn : Tryz.pinned.checked.prog.funcs[f]? = some fn) :
  false = Tryz.pinned.checked.prog.looks [] ∧ ∀ (j : Nat) t, fn.params[j]? = some t → Tryz.pinned.checked.prog.wantsStandIn t = false := by
 obtain rfl : f = 6 := Option.some.inj ((show Tryz.prog.funcNamed "bulkhead/bulkheadlaw13.BundleBursts" = some 6 by kernel_rfl).symm.trans hf) |>.symm
 obtain rfl : fn = Tryz.f6 := (Option.some.inj (Tryz.func6.symm.trans hfn)).symm
 refine ⟨by kernel_rfl, fun j t ht => ?_⟩
 have hall : Tryz.f6.params.all (fun t => Tryz.prog.wantsStandIn t == false) = true := by kernel_rfl
 have := Array.all_eq_true_iff_forall_mem.1 hall t (Array.mem_of_getElem? ht)
 exact beq_iff_eq.1 this
theorem card : Rows.BundleBurstsCardSaid :=
 Claim7.holds_tied_plain_at .later [] _ _ _ _ said (fun _ h => by cases h) (by kernel_rfl) (fun _ h => by cases h) bundleBursts_row_tie rfl ⟨rfl, rfl⟩ (by kernel_rfl) rfl plain (by kernel_rfl)
#print axioms card
end Go.Proofs.YtnifefmfhjfbnaaGreatDoor.bundleBursts
