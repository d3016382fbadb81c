/- What the rows' lists give: scan's tables. -/
import Derived.Test.YtlhecgokedckdaaDoorCards
import Derived.Test.YtlhecgokedckdaaDoorTie
import Derived.Test.YtlhecgokedckdaaDoorScTab
import Derived.ProofKit
import Derived.OpenShut
import Derived.ShutString
import Derived.ChangeOld
import Derived.Below
import Derived.Deep.DeepHandedRow
import Derived.Lib.LaidTab
namespace Go.Proofs.YtlhecgokedckdaaDoor
open Go.ChangeShapes Go.WideShapes Go.ChangeAt Go.RowKit
theorem ownKnobs : ownKnob Tryd.prog.godebug = none := by kernel_rfl
theorem laidOut : laidOutB Tryd.prog = true := by kernel_rfl
/-- a variable's cells, as the list says that they read -/
def ReadsAs (W : World) (name : String) (d : DataW Unit) : Prop :=
  ∃ g t cs fuel p, Tryd.prog.globalNamed name = some g ∧ (Tryd.prog.globals[g]?).map (·.type) = some t ∧ W.var? Tryd.prog name = some cs ∧ DataW.trod (fun _ => ()) Tryd.prog W 0 (fun _ => true) false fuel t cs.toList = some (d, p)
theorem laid_each {W : World} : ∀ {laid : List (String × DataW Unit)} {ps : List MemPlace}, DataW.LaidVars Tryd.prog W laid ps → ∀ x ∈ laid, ReadsAs W x.1 x.2
  | [], _, _, x, hx => by cases hx
  | (n, d) :: r, ps, h, x, hx => by
    obtain ⟨g, t, cs, fuel, p, q, h1, h2, h3, h4, h5, _⟩ := h
    rcases List.mem_cons.1 hx with rfl | hx
    · exact ⟨g, t, cs, fuel, p, h1, h2, h3, h4⟩
    · exact laid_each h5 x hx
theorem ReadsAs.tab {W : World} {name : String} {k : IntKind} {zs : List Int} {g n : Nat} {t e : TypeId} (h : ReadsAs W name (Lib.tabData k zs))
    (hg : Tryd.prog.globalNamed name = some g) (hty : (Tryd.prog.globals[g]?).map (·.type) = some t) (ht : Tryd.prog.underlying t = some (.array n e)) (he : Tryd.prog.underlying e = some (.int k)) (hce : Tryd.prog.cellsOf e = 1) (hct : Tryd.prog.cellsOf t = n) :
    ∀ i, i < zs.length → W.cell? ⟨g, i, none⟩ = some (.int k (zs.getD i 0)) := by
  obtain ⟨g', t', cs, fuel, p, h1, h2, h3, h4⟩ := h
  obtain rfl := Option.some.inj (hg.symm.trans h1)
  obtain rfl := Option.some.inj (hty.symm.trans h2)
  have hc := Lib.cells_of_tab ht he hce hct h4
  have ht' : Lib.TabIs Tryd.prog W name k zs := by
    unfold Lib.TabIs
    rw [h3, ← hc]
  exact fun i hi => ht'.cell hg i hi
/-- strings as a list has them -/
def strData (ss : List (List UInt8)) : DataW Unit := .agg (ss.map fun s => .lit (.string s))
theorem ReadsAs.strs {W : World} {name : String} {ss : List (List UInt8)} {g n : Nat} {t e : TypeId} (h : ReadsAs W name (strData ss))
    (hg : Tryd.prog.globalNamed name = some g) (hty : (Tryd.prog.globals[g]?).map (·.type) = some t) (ht : Tryd.prog.underlying t = some (.array n e)) (he : Tryd.prog.underlying e = some .string) (hce : Tryd.prog.cellsOf e = 1) (hct : Tryd.prog.cellsOf t = n) :
    ∀ i, i < ss.length → W.cell? ⟨g, i, none⟩ = some (.string ⟨(ss.getD i []).toArray⟩) := by
  obtain ⟨g', t', cs, fuel, p, h1, h2, h3, h4⟩ := h
  obtain rfl := Option.some.inj (hg.symm.trans h1)
  obtain rfl := Option.some.inj (hty.symm.trans h2)
  intro i hi
  have hcell := World.var?_cell hg h3 i
  cases fuel with
  | zero => simp [DataW.trod] at h4
  | succ fuel =>
    simp only [DataW.trod, ht, hce, hct, Nat.mul_one] at h4
    split at h4
    · rename_i hl
      obtain ⟨xs, hm, hx⟩ := Option.map_eq_some_iff.1 h4
      have hxs : xs.map (·.1) = ss.map fun s => (DataW.lit (.string s) : DataW Unit) := by
        have := congrArg Prod.fst hx
        simpa [strData] using this
      have hxl : xs.length = n := by simpa using Lib.mapM_length hm
      have hsl : ss.length = xs.length := by
        have := congrArg List.length hxs
        simpa using this.symm
      have hin : i < n := by omega
      obtain ⟨b, hb, hf⟩ := Lib.mapM_at hm i i (by simp [hin])
      obtain ⟨s, hc, rfl, _⟩ := DataW.trod_string he hf
      have c1 : cs[i]? = some (.string s) := by
        have := congrArg (·[0]?) hc
        simpa [List.getElem?_take, List.getElem?_drop] using this
      have c2 : (xs.map (·.1))[i]? = some (DataW.lit (.string s.data.toList) : DataW Unit) := by simp [hb]
      rw [hxs, List.getElem?_map, List.getElem?_eq_getElem hi] at c2
      simp only [Option.map_some, Option.some.injEq, DataW.lit.injEq, Lit.string.injEq] at c2
      rw [hcell, c1, List.getD_eq_getElem?_getD, List.getElem?_eq_getElem hi, Option.getD_some, c2]
    · cases h4
theorem strCell {ss : List (List Nat)} {us : List (List UInt8)} (h : us = ss.map fun s => s.map UInt8.ofNat) (i : Nat) (hi : i < ss.length) : (⟨(us.getD i []).toArray⟩ : ByteArray) = mkS (ss.getD i []) := by
  rw [h, List.getD_eq_getElem?_getD, List.getD_eq_getElem?_getD, List.getElem?_map, List.getElem?_eq_getElem hi]
  rfl
theorem tabs_of {W : World} {laid : List (String × DataW Unit)} (h : laidMet Tryd.prog laid W) (m1 : ("bulkhead/scan.classes", Rows.laid_bulkhead_scan_classes) ∈ laid) (m2 : ("bulkhead/scan.reserved", Rows.laid_bulkhead_scan_reserved) ∈ laid) (m3 : ("bulkhead/scan.signs", Rows.laid_bulkhead_scan_signs) ∈ laid) : Tabs W := by
  obtain ⟨ps, hv, _⟩ := h
  have r1 : ReadsAs W "bulkhead/scan.classes" (Lib.tabData .u8 (Sc.classes.map fun (n : Nat) => (n : Int))) := laid_each hv _ m1
  have r2 : ReadsAs W "bulkhead/scan.reserved" (strData (Sc.reserved.map fun s => s.map UInt8.ofNat)) := laid_each hv _ m2
  have r3 : ReadsAs W "bulkhead/scan.signs" (strData (Sc.signs.map fun s => s.map UInt8.ofNat)) := laid_each hv _ m3
  refine ⟨fun i hi => ?_, fun i hi => ?_, fun i hi => ?_⟩
  · have := r1.tab (g := 1) (t := 83) (by kernel_rfl) (by kernel_rfl) Tryd.underlying83 Tryd.underlying5 (by kernel_rfl) (by kernel_rfl) i (by simpa [Sc.classes] using hi)
    rw [this]
    congr 2
    rw [List.getD_eq_getElem?_getD, List.getElem?_map, List.getD_eq_getElem?_getD, List.getElem?_eq_getElem (show i < Sc.classes.length from hi)]
    rfl
  · rw [r2.strs (g := 0) (t := 80) (by kernel_rfl) (by kernel_rfl) Tryd.underlying80 Tryd.underlying9 (by kernel_rfl) (by kernel_rfl) i (by rw [List.length_map]; exact hi), strCell (ss := Sc.reserved) rfl i hi]
  · rw [r3.strs (g := 2) (t := 86) (by kernel_rfl) (by kernel_rfl) Tryd.underlying86 Tryd.underlying9 (by kernel_rfl) (by kernel_rfl) i (by rw [List.length_map]; exact hi), strCell (ss := Sc.signs) rfl i hi]
theorem rtabs_of {W : World} {laid : List (String × DataW Unit)} (h : laidMet Tryd.prog laid W) (m2 : ("bulkhead/bulkheadref5.reserved", Rows.laid_bulkhead_bulkheadref5_reserved) ∈ laid)
    (m3 : ("bulkhead/bulkheadref5.signs", Rows.laid_bulkhead_bulkheadref5_signs) ∈ laid)
    : RTabs W := by
  obtain ⟨ps, hv, _⟩ := h
  have r2 : ReadsAs W "bulkhead/bulkheadref5.reserved" (strData (Sc.reserved.map fun s => s.map UInt8.ofNat)) := laid_each hv _ m2
  have r3 : ReadsAs W "bulkhead/bulkheadref5.signs" (strData (Sc.signs.map fun s => s.map UInt8.ofNat)) := laid_each hv _ m3
  constructor
  · intro i hi
    rw [r2.strs (g := 3) (t := 80) (by kernel_rfl) (by kernel_rfl) Tryd.underlying80 Tryd.underlying9 (by kernel_rfl) (by kernel_rfl) i (by rw [List.length_map]; exact hi), strCell (ss := Sc.reserved) rfl i hi]
  · intro i hi
    rw [r3.strs (g := 4) (t := 86) (by kernel_rfl) (by kernel_rfl) Tryd.underlying86 Tryd.underlying9 (by kernel_rfl) (by kernel_rfl) i (by rw [List.length_map]; exact hi), strCell (ss := Sc.signs) rfl i hi]
theorem var_lt {W : World} {n : String} {g : Nat} {cs : Array Value} (hg : Tryd.prog.globalNamed n = some g) (h : W.var? Tryd.prog n = some cs) : g < W.heap.size := by
  simp only [World.var?, hg, Option.bind_some] at h
  cases e : W.heap[g]? with
  | none => rw [e] at h; cases h
  | some o => exact (Array.getElem?_eq_some_iff.1 e).1
theorem nine_of {W : World} {laid : List (String × DataW Unit)} (h : laidMet Tryd.prog laid W) (m : ("math/bits.deBruijn64tab", Rows.laid_math_bits_deBruijn64tab) ∈ laid) : 9 ≤ W.heap.size := by
  obtain ⟨ps, hv, _⟩ := h
  obtain ⟨g, t, cs, fuel, p, h1, h2, h3, h4⟩ := laid_each hv _ m
  obtain rfl : g = 8 := Option.some.inj (h1.symm.trans (by kernel_rfl))
  have := var_lt h1 h3
  omega
--WORLD
/-- a world that holds the tables as their initialisers lay them -/
noncomputable def laidWorld (os : Os) : World :=
  { World.holding Tryd.prog os ⟨#[], #[], []⟩ with heap := (((((((((World.holding Tryd.prog os ⟨#[], #[], []⟩).heap.modify 7 fun | .cells _ t frozen => .cells #[.int .u8 0, .int .u8 1, .int .u8 28, .int .u8 2, .int .u8 29, .int .u8 14, .int .u8 24, .int .u8 3, .int .u8 30, .int .u8 22, .int .u8 20, .int .u8 15, .int .u8 25, .int .u8 17, .int .u8 4, .int .u8 8, .int .u8 31, .int .u8 27, .int .u8 13, .int .u8 23, .int .u8 21, .int .u8 19, .int .u8 16, .int .u8 7, .int .u8 26, .int .u8 12, .int .u8 18, .int .u8 6, .int .u8 11, .int .u8 5, .int .u8 10, .int .u8 9] t frozen | o => o).modify 8 fun | .cells _ t frozen => .cells #[.int .u8 0, .int .u8 1, .int .u8 56, .int .u8 2, .int .u8 57, .int .u8 49, .int .u8 28, .int .u8 3, .int .u8 61, .int .u8 58, .int .u8 42, .int .u8 50, .int .u8 38, .int .u8 29, .int .u8 17, .int .u8 4, .int .u8 62, .int .u8 47, .int .u8 59, .int .u8 36, .int .u8 45, .int .u8 43, .int .u8 51, .int .u8 22, .int .u8 53, .int .u8 39, .int .u8 33, .int .u8 30, .int .u8 24, .int .u8 18, .int .u8 12, .int .u8 5, .int .u8 63, .int .u8 55, .int .u8 48, .int .u8 27, .int .u8 60, .int .u8 41, .int .u8 37, .int .u8 16, .int .u8 46, .int .u8 35, .int .u8 44, .int .u8 21, .int .u8 52, .int .u8 32, .int .u8 23, .int .u8 11, .int .u8 54, .int .u8 26, .int .u8 40, .int .u8 15, .int .u8 34, .int .u8 20, .int .u8 31, .int .u8 10, .int .u8 25, .int .u8 14, .int .u8 19, .int .u8 9, .int .u8 13, .int .u8 8, .int .u8 7, .int .u8 6] t frozen | o => o).modify 5 fun | .cells _ t frozen => .cells #[.int .u64 1, .int .u64 10, .int .u64 100, .int .u64 1000, .int .u64 10000, .int .u64 100000, .int .u64 1000000, .int .u64 10000000, .int .u64 100000000, .int .u64 1000000000, .int .u64 10000000000, .int .u64 100000000000, .int .u64 1000000000000, .int .u64 10000000000000, .int .u64 100000000000000, .int .u64 1000000000000000, .int .u64 10000000000000000, .int .u64 100000000000000000, .int .u64 1000000000000000000, .int .u64 10000000000000000000] t frozen | o => o).modify 1 fun | .cells _ t frozen => .cells #[.int .u8 0, .int .u8 0, .int .u8 0, .int .u8 0, .int .u8 0, .int .u8 0, .int .u8 0, .int .u8 0, .int .u8 0, .int .u8 1, .int .u8 1, .int .u8 0, .int .u8 0, .int .u8 1, .int .u8 0, .int .u8 0, .int .u8 0, .int .u8 0, .int .u8 0, .int .u8 0, .int .u8 0, .int .u8 0, .int .u8 0, .int .u8 0, .int .u8 0, .int .u8 0, .int .u8 0, .int .u8 0, .int .u8 0, .int .u8 0, .int .u8 0, .int .u8 0, .int .u8 1, .int .u8 4, .int .u8 3, .int .u8 2, .int .u8 0, .int .u8 4, .int .u8 4, .int .u8 0, .int .u8 4, .int .u8 4, .int .u8 4, .int .u8 4, .int .u8 4, .int .u8 4, .int .u8 4, .int .u8 4, .int .u8 6, .int .u8 6, .int .u8 6, .int .u8 6, .int .u8 6, .int .u8 6, .int .u8 6, .int .u8 6, .int .u8 6, .int .u8 6, .int .u8 0, .int .u8 4, .int .u8 4, .int .u8 4, .int .u8 4, .int .u8 0, .int .u8 0, .int .u8 5, .int .u8 5, .int .u8 5, .int .u8 5, .int .u8 5, .int .u8 5, .int .u8 5, .int .u8 5, .int .u8 5, .int .u8 5, .int .u8 5, .int .u8 5, .int .u8 5, .int .u8 5, .int .u8 5, .int .u8 5, .int .u8 5, .int .u8 5, .int .u8 5, .int .u8 5, .int .u8 5, .int .u8 5, .int .u8 5, .int .u8 5, .int .u8 5, .int .u8 5, .int .u8 4, .int .u8 0, .int .u8 4, .int .u8 4, .int .u8 5, .int .u8 0, .int .u8 5, .int .u8 5, .int .u8 5, .int .u8 5, .int .u8 5, .int .u8 5, .int .u8 5, .int .u8 5, .int .u8 5, .int .u8 5, .int .u8 5, .int .u8 5, .int .u8 5, .int .u8 5, .int .u8 5, .int .u8 5, .int .u8 5, .int .u8 5, .int .u8 5, .int .u8 5, .int .u8 5, .int .u8 5, .int .u8 5, .int .u8 5, .int .u8 5, .int .u8 5, .int .u8 4, .int .u8 4, .int .u8 4, .int .u8 0, .int .u8 0] t frozen | o => o).modify 2 fun | .cells _ t frozen => .cells #[.string ⟨#[123]⟩, .string ⟨#[125]⟩, .string ⟨#[91]⟩, .string ⟨#[93]⟩, .string ⟨#[40]⟩, .string ⟨#[41]⟩, .string ⟨#[59]⟩, .string ⟨#[44]⟩, .string ⟨#[46, 46]⟩, .string ⟨#[61]⟩, .string ⟨#[61, 61]⟩, .string ⟨#[33, 61]⟩, .string ⟨#[60]⟩, .string ⟨#[60, 61]⟩, .string ⟨#[62]⟩, .string ⟨#[62, 61]⟩, .string ⟨#[124]⟩, .string ⟨#[94]⟩, .string ⟨#[38]⟩, .string ⟨#[60, 60]⟩, .string ⟨#[62, 62]⟩, .string ⟨#[43]⟩, .string ⟨#[45]⟩, .string ⟨#[42]⟩, .string ⟨#[47]⟩, .string ⟨#[37]⟩] t frozen | o => o).modify 0 fun | .cells _ t frozen => .cells #[.string ⟨#[115, 121, 115, 116, 101, 109]⟩, .string ⟨#[99, 111, 110, 115, 116]⟩, .string ⟨#[101, 97, 99, 104]⟩, .string ⟨#[105, 110]⟩, .string ⟨#[105, 102]⟩, .string ⟨#[101, 108, 115, 101]⟩, .string ⟨#[97, 115, 115, 101, 114, 116]⟩, .string ⟨#[103, 114, 111, 117, 112]⟩, .string ⟨#[117, 115, 101]⟩, .string ⟨#[114, 97, 109]⟩, .string ⟨#[115, 105, 122, 101]⟩, .string ⟨#[100, 101, 118, 105, 99, 101]⟩, .string ⟨#[97, 116]⟩, .string ⟨#[100, 109, 97]⟩, .string ⟨#[114, 101, 103, 105, 111, 110]⟩, .string ⟨#[98, 105, 103]⟩, .string ⟨#[119, 120]⟩, .string ⟨#[102, 105, 108, 108]⟩, .string ⟨#[115, 117, 98, 106, 101, 99, 116]⟩, .string ⟨#[99, 112, 117]⟩, .string ⟨#[115, 116, 111, 112, 112, 101, 100]⟩, .string ⟨#[109, 97, 112]⟩, .string ⟨#[119, 114, 105, 116, 101]⟩, .string ⟨#[101, 120, 101, 99]⟩, .string ⟨#[102, 97, 117, 108, 116]⟩, .string ⟨#[115, 116, 111, 112]⟩, .string ⟨#[114, 101, 115, 101, 116]⟩, .string ⟨#[116, 101, 108, 108]⟩, .string ⟨#[118, 101, 99, 116, 111, 114]⟩, .string ⟨#[99, 104, 97, 110, 110, 101, 108]⟩, .string ⟨#[102, 114, 111, 109]⟩, .string ⟨#[116, 111]⟩, .string ⟨#[111, 118, 101, 114]⟩, .string ⟨#[115, 116, 97, 114, 116]⟩, .string ⟨#[105, 114, 113]⟩, .string ⟨#[109, 97, 115, 107, 101, 100]⟩, .string ⟨#[112, 108, 97, 110]⟩, .string ⟨#[109, 97, 106, 111, 114]⟩, .string ⟨#[114, 117, 110]⟩, .string ⟨#[105, 100, 108, 101]⟩, .string ⟨#[110, 101, 101, 100, 115]⟩, .string ⟨#[110, 101, 101, 100]⟩, .string ⟨#[101, 118, 101, 114, 121]⟩, .string ⟨#[109, 97, 115, 116, 101, 114]⟩] t frozen | o => o).modify 3 fun | .cells _ t frozen => .cells #[.string ⟨#[115, 121, 115, 116, 101, 109]⟩, .string ⟨#[99, 111, 110, 115, 116]⟩, .string ⟨#[101, 97, 99, 104]⟩, .string ⟨#[105, 110]⟩, .string ⟨#[105, 102]⟩, .string ⟨#[101, 108, 115, 101]⟩, .string ⟨#[97, 115, 115, 101, 114, 116]⟩, .string ⟨#[103, 114, 111, 117, 112]⟩, .string ⟨#[117, 115, 101]⟩, .string ⟨#[114, 97, 109]⟩, .string ⟨#[115, 105, 122, 101]⟩, .string ⟨#[100, 101, 118, 105, 99, 101]⟩, .string ⟨#[97, 116]⟩, .string ⟨#[100, 109, 97]⟩, .string ⟨#[114, 101, 103, 105, 111, 110]⟩, .string ⟨#[98, 105, 103]⟩, .string ⟨#[119, 120]⟩, .string ⟨#[102, 105, 108, 108]⟩, .string ⟨#[115, 117, 98, 106, 101, 99, 116]⟩, .string ⟨#[99, 112, 117]⟩, .string ⟨#[115, 116, 111, 112, 112, 101, 100]⟩, .string ⟨#[109, 97, 112]⟩, .string ⟨#[119, 114, 105, 116, 101]⟩, .string ⟨#[101, 120, 101, 99]⟩, .string ⟨#[102, 97, 117, 108, 116]⟩, .string ⟨#[115, 116, 111, 112]⟩, .string ⟨#[114, 101, 115, 101, 116]⟩, .string ⟨#[116, 101, 108, 108]⟩, .string ⟨#[118, 101, 99, 116, 111, 114]⟩, .string ⟨#[99, 104, 97, 110, 110, 101, 108]⟩, .string ⟨#[102, 114, 111, 109]⟩, .string ⟨#[116, 111]⟩, .string ⟨#[111, 118, 101, 114]⟩, .string ⟨#[115, 116, 97, 114, 116]⟩, .string ⟨#[105, 114, 113]⟩, .string ⟨#[109, 97, 115, 107, 101, 100]⟩, .string ⟨#[112, 108, 97, 110]⟩, .string ⟨#[109, 97, 106, 111, 114]⟩, .string ⟨#[114, 117, 110]⟩, .string ⟨#[105, 100, 108, 101]⟩, .string ⟨#[110, 101, 101, 100, 115]⟩, .string ⟨#[110, 101, 101, 100]⟩, .string ⟨#[101, 118, 101, 114, 121]⟩, .string ⟨#[109, 97, 115, 116, 101, 114]⟩] t frozen | o => o).modify 4 fun | .cells _ t frozen => .cells #[.string ⟨#[123]⟩, .string ⟨#[125]⟩, .string ⟨#[91]⟩, .string ⟨#[93]⟩, .string ⟨#[40]⟩, .string ⟨#[41]⟩, .string ⟨#[59]⟩, .string ⟨#[44]⟩, .string ⟨#[46, 46]⟩, .string ⟨#[61]⟩, .string ⟨#[61, 61]⟩, .string ⟨#[33, 61]⟩, .string ⟨#[60]⟩, .string ⟨#[60, 61]⟩, .string ⟨#[62]⟩, .string ⟨#[62, 61]⟩, .string ⟨#[124]⟩, .string ⟨#[94]⟩, .string ⟨#[38]⟩, .string ⟨#[60, 60]⟩, .string ⟨#[62, 62]⟩, .string ⟨#[43]⟩, .string ⟨#[45]⟩, .string ⟨#[42]⟩, .string ⟨#[47]⟩, .string ⟨#[37]⟩] t frozen | o => o) }
end Go.Proofs.YtlhecgokedckdaaDoor
