/- What again takes of a reader, of any step. -/
import Derived.Test.YtlcjdofciogfaaaDoorOpLay
namespace Go.Proofs.YtlcjdofciogfaaaDoor
open Go.RowKit
/-- a reader behind a call, and what the call left alone -/
def Ag (w w' : World) (p g : Nat) (zs : List Nat) (pos : Nat) (why : Int) : Prop := Rd w' p g zs pos why ∧ Keeps (fun k => k = p) w w' ∧ p < w.heap.size ∧ g < w.heap.size
theorem Ag.set {w w' : World} {p g : Nat} {zs : List Nat} {pos : Nat} {why : Int} (h : Ag w w' p g zs pos why) {b : Nat} (hb : w.heap.size ≤ b) (i : Nat) (v : Value) : Ag w (w'.setCell ⟨b, i, none⟩ v) p g zs pos why :=
  ⟨h.1.keeps (Keeps.setCell w' b i v) (by have := h.2.2.1; omega) (by have := h.2.2.2; omega), h.2.1.trans (Keeps.setCell w' b i v) (fun k hk e => by omega), h.2.2⟩
theorem Ag.of {w w' : World} {p g : Nat} {zs zs' : List Nat} {pos pos' : Nat} {why why' : Int} (h0 : Rd w p g zs' pos' why') (h : Rd w' p g zs pos why) {x y z : Obj} (hk : Keeps (fun k => k = p) (((w.alloc x).alloc y).alloc z) w') : Ag w w' p g zs pos why :=
  ⟨h, ((((Keeps.alloc (S := fun k => k = p) w x).trans (Keeps.alloc (S := fun k => k = p) _ y) (fun _ _ h => h)).trans (Keeps.alloc (S := fun k => k = p) _ z) (fun _ _ h => h)).trans hk (fun _ _ h => h)), h0.lt, h0.2.1.lt⟩
theorem Rd.alloc {w : World} {p g : Nat} {zs : List Nat} {pos : Nat} {why : Int} (h : Rd w p g zs pos why) (o : Obj) : Rd (w.alloc o) p g zs pos why :=
  h.keeps (Keeps.alloc (S := fun _ => False) w o) (fun h => h) (fun h => h)
theorem new_block1 {w : World} {p g : Nat} {zs : List Nat} {pos : Nat} {why : Int} (h0 : Rd w p g zs pos why) {w' : World} {x y z : Obj} (hk : Keeps (fun k => k = p) (((w.alloc x).alloc y).alloc z) w') : w'.heap[w.heap.size + 1]? = some y ∧ w'.heap[w.heap.size + 1 + 1]? = some z := by
  have := h0.lt
  constructor
  · rw [hk.block _ (by simp) (by omega), Below.heap_alloc _ _ _ (by simp)]
    have := heap_alloc_new (w.alloc x) y
    rwa [show (w.alloc x).heap.size = w.heap.size + 1 by simp] at this
  · rw [hk.block _ (by simp) (by omega)]
    have := heap_alloc_new ((w.alloc x).alloc y) z
    rwa [show ((w.alloc x).alloc y).heap.size = w.heap.size + 1 + 1 by simp] at this
structure Six (w : World) (b : Nat) (v0 v1 v2 v3 v4 v5 : Value) : Prop where
  c0 : w.cell? ⟨b, 0, none⟩ = some v0
  c1 : w.cell? ⟨b, 1, none⟩ = some v1
  c2 : w.cell? ⟨b, 2, none⟩ = some v2
  c3 : w.cell? ⟨b, 3, none⟩ = some v3
  c4 : w.cell? ⟨b, 4, none⟩ = some v4
  c5 : w.cell? ⟨b, 5, none⟩ = some v5
  f : ∀ i, w.frozen? ⟨b, i, none⟩ = false
theorem six_of {w : World} {b : Nat} {v0 v1 v2 v3 v4 v5 : Value} {t : Nat} (h : w.heap[b]? = some (.cells #[v0, v1, v2, v3, v4, v5] t (0, 0))) : Six w b v0 v1 v2 v3 v4 v5 := by
  refine ⟨?_, ?_, ?_, ?_, ?_, ?_, fun i => by simp [World.frozen?, h]⟩ <;> (rw [cell_of_row w b _ _ _ _ h]; rfl)
/-- what again leaves -/
def AgainPost (w : World) (p g : Nat) (zs : List Nat) (o : OpV) (m : Nat) (qs : List Nat) (s' : ByteArray) (pos' : Nat) (why' : Int) (e : Ending) (w' : World) : Prop :=
  ∃ v', e = .returned (.agg (OpV.vals ⟨o.kind, 0, m, o.num, v', qs, s'⟩)) ∧ Sl w' v' qs ∧ (∀ k, v'.ownBlock = some k → w.heap.size ≤ k) ∧ Ag w w' p g zs pos' why'
theorem nil_sl (w : World) : Sl w (.slice none 0 0) [] := ⟨none, 0, rfl, by simp, by simp [maxLen], by simp, fun _ => rfl, fun i hi => by simp at hi⟩
theorem Sl.set {w : World} {v : Value} {zs : List Nat} (h : Sl w v zs) {b : Nat} (hb : ∀ k, v.ownBlock = some k → b ≠ k) (i : Nat) (x : Value) : Sl (w.setCell ⟨b, i, none⟩ x) v zs :=
  h.keeps (Keeps.setCell w b i x) (fun k hk e => hb k hk e.symm)
theorem tab_boxes {w : World} (h : Tab w) (x y z : Obj) : Tab (((w.alloc x).alloc y).alloc z) :=
  ((h.below ((Below.refl _ _).alloc (Nat.le_refl _) _)).below ((Below.refl _ _).alloc (Nat.le_refl _) _)).below ((Below.refl _ _).alloc (Nat.le_refl _) _)
set_option maxRecDepth 100000 in
set_option maxHeartbeats 2000000 in
theorem again_byte {w : World} {p g : Nat} {zs : List Nat} {tpos : Nat} {pos num : Int} {n : Nat} {pv : Value} {ps : List Nat} {s : ByteArray} (h : Rd w p g zs tpos 0) (ht : Tab w) (ho : Sl w pv ps) {tpos' : Nat} {why' : Int} {m : Nat} (hm : m < 256)
    (HC : Hid (∀ W, Tab W → Rd W p g zs tpos 0 → Calls Tryd.prog 44 #[.pointer (some ⟨p, 0, none⟩)] W fun e w' => e = .returned (.int .u8 (m : Nat)) ∧ Rd w' p g zs tpos' why' ∧ Keeps (fun k => k = p) W w')) :
    Calls Tryd.prog 21 #[.pointer (some ⟨p, 0, none⟩), .agg #[.int .i64 1, .int .i64 pos, .int .u64 (n : Int), .int .i64 num, pv, .string s]] w (AgainPost w p g zs ⟨1, pos, n, num, pv, ps, s⟩ m [] ⟨#[]⟩ tpos' why') := by
  obtain ⟨pa, pc, hpv⟩ : ∃ a c, pv = .slice a ps.length c := by
    obtain ⟨a, c, e, _⟩ := ho
    exact ⟨a, c, e⟩
  subst hpv
  have HR : Hid (Rd w p g zs tpos 0) := h
  have HT : Hid (Tab w) := ht
  clear h ho ht
  go_enter Tryd.func21, Tryd.ntmps21
  go_wp2_with fail
  refine (HC.out _ (tab_boxes HT.out _ _ _) (((HR.out.alloc _).alloc _).alloc _)).mono ?_
  rintro e w1 ⟨rfl, h1, h2⟩
  have HA : Hid (Ag w w1 p g zs tpos' why') := Ag.of HR.out h1 h2
  obtain ⟨hb1, hb2⟩ := new_block1 HR.out h2
  obtain ⟨d0, d1, d2, d3, d4, d5, hf1⟩ := six_of hb1
  obtain ⟨c0, c1, c2, c3, c4, c5, hf2⟩ := six_of hb2
  clear h1 h2 hb1 hb2 HC HR HT
  go_wp2
  refine bodyPost_ret (v := .agg #[.int .i64 1, .int .i64 0, .int .u64 (m : Int), .int .i64 num, .slice none 0 0, .string ⟨#[]⟩]) (by simp [results, Tryd.results21, go_sem, d0, d1, d2, d3, d4, d5]) rfl ?_
  refine ⟨.slice none 0 0, rfl, nil_sl _, fun k hk => (by cases hk), ?_⟩
  · iterate 7 refine Ag.set ?_ (by omega) _ _
    exact HA.out
set_option maxRecDepth 100000 in
set_option maxHeartbeats 2000000 in
theorem again_half {w : World} {p g : Nat} {zs : List Nat} {tpos : Nat} {pos num : Int} {n : Nat} {pv : Value} {ps : List Nat} {s : ByteArray} (h : Rd w p g zs tpos 0) (ht : Tab w) (ho : Sl w pv ps) {tpos' : Nat} {why' : Int} {m : Nat} (hm : m < 65536)
    (HC : Hid (∀ W, Tab W → Rd W p g zs tpos 0 → Calls Tryd.prog 45 #[.pointer (some ⟨p, 0, none⟩)] W fun e w' => e = .returned (.int .u16 (m : Nat)) ∧ Rd w' p g zs tpos' why' ∧ Keeps (fun k => k = p) W w')) :
    Calls Tryd.prog 21 #[.pointer (some ⟨p, 0, none⟩), .agg #[.int .i64 2, .int .i64 pos, .int .u64 (n : Int), .int .i64 num, pv, .string s]] w (AgainPost w p g zs ⟨2, pos, n, num, pv, ps, s⟩ m [] ⟨#[]⟩ tpos' why') := by
  obtain ⟨pa, pc, hpv⟩ : ∃ a c, pv = .slice a ps.length c := by
    obtain ⟨a, c, e, _⟩ := ho
    exact ⟨a, c, e⟩
  subst hpv
  have HR : Hid (Rd w p g zs tpos 0) := h
  have HT : Hid (Tab w) := ht
  clear h ho ht
  go_enter Tryd.func21, Tryd.ntmps21
  go_wp2_with fail
  refine (HC.out _ (tab_boxes HT.out _ _ _) (((HR.out.alloc _).alloc _).alloc _)).mono ?_
  rintro e w1 ⟨rfl, h1, h2⟩
  have HA : Hid (Ag w w1 p g zs tpos' why') := Ag.of HR.out h1 h2
  obtain ⟨hb1, hb2⟩ := new_block1 HR.out h2
  obtain ⟨d0, d1, d2, d3, d4, d5, hf1⟩ := six_of hb1
  obtain ⟨c0, c1, c2, c3, c4, c5, hf2⟩ := six_of hb2
  clear h1 h2 hb1 hb2 HC HR HT
  go_wp2
  refine bodyPost_ret (v := .agg #[.int .i64 2, .int .i64 0, .int .u64 (m : Int), .int .i64 num, .slice none 0 0, .string ⟨#[]⟩]) (by simp [results, Tryd.results21, go_sem, d0, d1, d2, d3, d4, d5]) rfl ?_
  refine ⟨.slice none 0 0, rfl, nil_sl _, fun k hk => (by cases hk), ?_⟩
  · iterate 7 refine Ag.set ?_ (by omega) _ _
    exact HA.out
set_option maxRecDepth 100000 in
set_option maxHeartbeats 2000000 in
theorem again_word {w : World} {p g : Nat} {zs : List Nat} {tpos : Nat} {pos num : Int} {n : Nat} {pv : Value} {ps : List Nat} {s : ByteArray} (h : Rd w p g zs tpos 0) (ht : Tab w) (ho : Sl w pv ps) {tpos' : Nat} {why' : Int} {m : Nat} (hm : m < 4294967296)
    (HC : Hid (∀ W, Tab W → Rd W p g zs tpos 0 → Calls Tryd.prog 46 #[.pointer (some ⟨p, 0, none⟩)] W fun e w' => e = .returned (.int .u32 (m : Nat)) ∧ Rd w' p g zs tpos' why' ∧ Keeps (fun k => k = p) W w')) :
    Calls Tryd.prog 21 #[.pointer (some ⟨p, 0, none⟩), .agg #[.int .i64 3, .int .i64 pos, .int .u64 (n : Int), .int .i64 num, pv, .string s]] w (AgainPost w p g zs ⟨3, pos, n, num, pv, ps, s⟩ m [] ⟨#[]⟩ tpos' why') := by
  obtain ⟨pa, pc, hpv⟩ : ∃ a c, pv = .slice a ps.length c := by
    obtain ⟨a, c, e, _⟩ := ho
    exact ⟨a, c, e⟩
  subst hpv
  have HR : Hid (Rd w p g zs tpos 0) := h
  have HT : Hid (Tab w) := ht
  clear h ho ht
  go_enter Tryd.func21, Tryd.ntmps21
  go_wp2_with fail
  refine (HC.out _ (tab_boxes HT.out _ _ _) (((HR.out.alloc _).alloc _).alloc _)).mono ?_
  rintro e w1 ⟨rfl, h1, h2⟩
  have HA : Hid (Ag w w1 p g zs tpos' why') := Ag.of HR.out h1 h2
  obtain ⟨hb1, hb2⟩ := new_block1 HR.out h2
  obtain ⟨d0, d1, d2, d3, d4, d5, hf1⟩ := six_of hb1
  obtain ⟨c0, c1, c2, c3, c4, c5, hf2⟩ := six_of hb2
  clear h1 h2 hb1 hb2 HC HR HT
  go_wp2
  refine bodyPost_ret (v := .agg #[.int .i64 3, .int .i64 0, .int .u64 (m : Int), .int .i64 num, .slice none 0 0, .string ⟨#[]⟩]) (by simp [results, Tryd.results21, go_sem, d0, d1, d2, d3, d4, d5]) rfl ?_
  refine ⟨.slice none 0 0, rfl, nil_sl _, fun k hk => (by cases hk), ?_⟩
  · iterate 7 refine Ag.set ?_ (by omega) _ _
    exact HA.out
set_option maxRecDepth 100000 in
set_option maxHeartbeats 2000000 in
theorem again_long {w : World} {p g : Nat} {zs : List Nat} {tpos : Nat} {pos num : Int} {n : Nat} {pv : Value} {ps : List Nat} {s : ByteArray} (h : Rd w p g zs tpos 0) (ht : Tab w) (ho : Sl w pv ps) {tpos' : Nat} {why' : Int} {m : Nat} 
    (HC : Hid (∀ W, Tab W → Rd W p g zs tpos 0 → Calls Tryd.prog 47 #[.pointer (some ⟨p, 0, none⟩)] W fun e w' => e = .returned (.int .u64 (m : Nat)) ∧ Rd w' p g zs tpos' why' ∧ Keeps (fun k => k = p) W w')) :
    Calls Tryd.prog 21 #[.pointer (some ⟨p, 0, none⟩), .agg #[.int .i64 4, .int .i64 pos, .int .u64 (n : Int), .int .i64 num, pv, .string s]] w (AgainPost w p g zs ⟨4, pos, n, num, pv, ps, s⟩ m [] ⟨#[]⟩ tpos' why') := by
  obtain ⟨pa, pc, hpv⟩ : ∃ a c, pv = .slice a ps.length c := by
    obtain ⟨a, c, e, _⟩ := ho
    exact ⟨a, c, e⟩
  subst hpv
  have HR : Hid (Rd w p g zs tpos 0) := h
  have HT : Hid (Tab w) := ht
  clear h ho ht
  go_enter Tryd.func21, Tryd.ntmps21
  go_wp2_with fail
  refine (HC.out _ (tab_boxes HT.out _ _ _) (((HR.out.alloc _).alloc _).alloc _)).mono ?_
  rintro e w1 ⟨rfl, h1, h2⟩
  have HA : Hid (Ag w w1 p g zs tpos' why') := Ag.of HR.out h1 h2
  obtain ⟨hb1, hb2⟩ := new_block1 HR.out h2
  obtain ⟨d0, d1, d2, d3, d4, d5, hf1⟩ := six_of hb1
  obtain ⟨c0, c1, c2, c3, c4, c5, hf2⟩ := six_of hb2
  clear h1 h2 hb1 hb2 HC HR HT
  go_wp2
  refine bodyPost_ret (v := .agg #[.int .i64 4, .int .i64 0, .int .u64 (m : Int), .int .i64 num, .slice none 0 0, .string ⟨#[]⟩]) (by simp [results, Tryd.results21, go_sem, d0, d1, d2, d3, d4, d5]) rfl ?_
  refine ⟨.slice none 0 0, rfl, nil_sl _, fun k hk => (by cases hk), ?_⟩
  · iterate 7 refine Ag.set ?_ (by omega) _ _
    exact HA.out
set_option maxRecDepth 100000 in
set_option maxHeartbeats 2000000 in
theorem again_bytes {w : World} {p g : Nat} {zs : List Nat} {tpos : Nat} {pos num : Int} {n : Nat} {pv : Value} {ps : List Nat} {s : ByteArray} (h : Rd w p g zs tpos 0) (ht : Tab w) (ho : Sl w pv ps) {tpos' : Nat} {why' : Int} {qs : List Nat} 
    (HC : Hid (∀ W, Tab W → Rd W p g zs tpos 0 → Calls Tryd.prog 48 #[.pointer (some ⟨p, 0, none⟩), .int .i64 (ps.length : Int)] W fun e w' => ∃ ao c, e = .returned (.slice ao qs.length c) ∧ Sl w' (.slice ao qs.length c) qs ∧ (∀ a, ao = some a → W.heap.size ≤ a.block) ∧ Rd w' p g zs tpos' why' ∧ Keeps (fun k => k = p) W w')) :
    Calls Tryd.prog 21 #[.pointer (some ⟨p, 0, none⟩), .agg #[.int .i64 5, .int .i64 pos, .int .u64 (n : Int), .int .i64 num, pv, .string s]] w (AgainPost w p g zs ⟨5, pos, n, num, pv, ps, s⟩ 0 qs ⟨#[]⟩ tpos' why') := by
  obtain ⟨pa, pc, hpv⟩ : ∃ a c, pv = .slice a ps.length c := by
    obtain ⟨a, c, e, _⟩ := ho
    exact ⟨a, c, e⟩
  subst hpv
  have HR : Hid (Rd w p g zs tpos 0) := h
  have HT : Hid (Tab w) := ht
  clear h ho ht
  go_enter Tryd.func21, Tryd.ntmps21
  go_wp2_with fail
  refine (HC.out _ (tab_boxes HT.out _ _ _) (((HR.out.alloc _).alloc _).alloc _)).mono ?_
  rintro e w1 ⟨ao, c, rfl, hq, hn, h1, h2⟩
  have HQ : Hid (Sl w1 (.slice ao qs.length c) qs) := hq
  have HN : Hid (∀ k, (Value.slice ao qs.length c).ownBlock = some k → w.heap.size + 1 + 1 + 1 ≤ k) := fun k hk => by
    cases ao with
    | none => cases hk
    | some a => cases hk; have := hn a rfl; simpa using this
  clear hq hn
  have HA : Hid (Ag w w1 p g zs tpos' why') := Ag.of HR.out h1 h2
  obtain ⟨hb1, hb2⟩ := new_block1 HR.out h2
  obtain ⟨d0, d1, d2, d3, d4, d5, hf1⟩ := six_of hb1
  obtain ⟨c0, c1, c2, c3, c4, c5, hf2⟩ := six_of hb2
  clear h1 h2 hb1 hb2 HC HR HT
  go_wp2
  refine bodyPost_ret (v := .agg #[.int .i64 5, .int .i64 0, .int .u64 0, .int .i64 num, .slice ao qs.length c, .string ⟨#[]⟩]) (by simp [results, Tryd.results21, go_sem, d0, d1, d2, d3, d4, d5]) rfl ?_
  refine ⟨.slice ao qs.length c, rfl, ?_, fun k hk => (by have := HN.out k hk; omega), ?_⟩
  · iterate 7 refine Sl.set ?_ (fun k hk => (by have := HN.out k hk; omega)) _ _
    exact HQ.out
  · iterate 7 refine Ag.set ?_ (by omega) _ _
    exact HA.out
set_option maxRecDepth 100000 in
set_option maxHeartbeats 2000000 in
theorem again_text {w : World} {p g : Nat} {zs : List Nat} {tpos : Nat} {pos num : Int} {n : Nat} {pv : Value} {ps : List Nat} {s : ByteArray} (h : Rd w p g zs tpos 0) (ht : Tab w) (ho : Sl w pv ps) {tpos' : Nat} {why' : Int} {s' : ByteArray} 
    (HC : Hid (∀ W, Tab W → Rd W p g zs tpos 0 → Calls Tryd.prog 49 #[.pointer (some ⟨p, 0, none⟩), .int .i64 (s.size : Int)] W fun e w' => e = .returned (.string s') ∧ Rd w' p g zs tpos' why' ∧ Keeps (fun k => k = p) W w')) :
    Calls Tryd.prog 21 #[.pointer (some ⟨p, 0, none⟩), .agg #[.int .i64 6, .int .i64 pos, .int .u64 (n : Int), .int .i64 num, pv, .string s]] w (AgainPost w p g zs ⟨6, pos, n, num, pv, ps, s⟩ 0 [] s' tpos' why') := by
  obtain ⟨pa, pc, hpv⟩ : ∃ a c, pv = .slice a ps.length c := by
    obtain ⟨a, c, e, _⟩ := ho
    exact ⟨a, c, e⟩
  subst hpv
  have HR : Hid (Rd w p g zs tpos 0) := h
  have HT : Hid (Tab w) := ht
  clear h ho ht
  go_enter Tryd.func21, Tryd.ntmps21
  go_wp2_with fail
  refine (HC.out _ (tab_boxes HT.out _ _ _) (((HR.out.alloc _).alloc _).alloc _)).mono ?_
  rintro e w1 ⟨rfl, h1, h2⟩
  have HA : Hid (Ag w w1 p g zs tpos' why') := Ag.of HR.out h1 h2
  obtain ⟨hb1, hb2⟩ := new_block1 HR.out h2
  obtain ⟨d0, d1, d2, d3, d4, d5, hf1⟩ := six_of hb1
  obtain ⟨c0, c1, c2, c3, c4, c5, hf2⟩ := six_of hb2
  clear h1 h2 hb1 hb2 HC HR HT
  go_wp2
  refine bodyPost_ret (v := .agg #[.int .i64 6, .int .i64 0, .int .u64 0, .int .i64 num, .slice none 0 0, .string s']) (by simp [results, Tryd.results21, go_sem, d0, d1, d2, d3, d4, d5]) rfl ?_
  refine ⟨.slice none 0 0, rfl, nil_sl _, fun k hk => (by cases hk), ?_⟩
  · iterate 7 refine Ag.set ?_ (by omega) _ _
    exact HA.out
set_option maxRecDepth 100000 in
set_option maxHeartbeats 2000000 in
theorem again_pad {w : World} {p g : Nat} {zs : List Nat} {tpos : Nat} {pos num : Int} {n : Nat} {pv : Value} {ps : List Nat} {s : ByteArray} (h : Rd w p g zs tpos 0) (ht : Tab w) (ho : Sl w pv ps) {tpos' : Nat} {why' : Int}  
    (HC : Hid (∀ W, Tab W → Rd W p g zs tpos 0 → Calls Tryd.prog 50 #[.pointer (some ⟨p, 0, none⟩), .int .i64 num] W fun e w' => e = .returned (.tuple #[]) ∧ Rd w' p g zs tpos' why' ∧ Keeps (fun k => k = p) W w')) :
    Calls Tryd.prog 21 #[.pointer (some ⟨p, 0, none⟩), .agg #[.int .i64 7, .int .i64 pos, .int .u64 (n : Int), .int .i64 num, pv, .string s]] w (AgainPost w p g zs ⟨7, pos, n, num, pv, ps, s⟩ 0 [] ⟨#[]⟩ tpos' why') := by
  obtain ⟨pa, pc, hpv⟩ : ∃ a c, pv = .slice a ps.length c := by
    obtain ⟨a, c, e, _⟩ := ho
    exact ⟨a, c, e⟩
  subst hpv
  have HR : Hid (Rd w p g zs tpos 0) := h
  have HT : Hid (Tab w) := ht
  clear h ho ht
  go_enter Tryd.func21, Tryd.ntmps21
  go_wp2_with fail
  refine (HC.out _ (tab_boxes HT.out _ _ _) (((HR.out.alloc _).alloc _).alloc _)).mono ?_
  rintro e w1 ⟨rfl, h1, h2⟩
  have HA : Hid (Ag w w1 p g zs tpos' why') := Ag.of HR.out h1 h2
  obtain ⟨hb1, hb2⟩ := new_block1 HR.out h2
  obtain ⟨d0, d1, d2, d3, d4, d5, hf1⟩ := six_of hb1
  obtain ⟨c0, c1, c2, c3, c4, c5, hf2⟩ := six_of hb2
  clear h1 h2 hb1 hb2 HC HR HT
  go_wp2
  refine bodyPost_ret (v := .agg #[.int .i64 7, .int .i64 0, .int .u64 0, .int .i64 num, .slice none 0 0, .string ⟨#[]⟩]) (by simp [results, Tryd.results21, go_sem, d0, d1, d2, d3, d4, d5]) rfl ?_
  refine ⟨.slice none 0 0, rfl, nil_sl _, fun k hk => (by cases hk), ?_⟩
  · iterate 6 refine Ag.set ?_ (by omega) _ _
    exact HA.out
set_option maxRecDepth 100000 in
set_option maxHeartbeats 2000000 in
theorem again_seal {w : World} {p g : Nat} {zs : List Nat} {tpos : Nat} {pos num : Int} {n : Nat} {pv : Value} {ps : List Nat} {s : ByteArray} (h : Rd w p g zs tpos 0) (ht : Tab w) (ho : Sl w pv ps) {tpos' : Nat} {why' : Int}  
    (HC : Hid (∀ W, Tab W → Rd W p g zs tpos 0 → Calls Tryd.prog 51 #[.pointer (some ⟨p, 0, none⟩), .int .i64 num] W fun e w' => e = .returned (.tuple #[]) ∧ Rd w' p g zs tpos' why' ∧ Keeps (fun k => k = p) W w')) :
    Calls Tryd.prog 21 #[.pointer (some ⟨p, 0, none⟩), .agg #[.int .i64 8, .int .i64 pos, .int .u64 (n : Int), .int .i64 num, pv, .string s]] w (AgainPost w p g zs ⟨8, pos, n, num, pv, ps, s⟩ 0 [] ⟨#[]⟩ tpos' why') := by
  obtain ⟨pa, pc, hpv⟩ : ∃ a c, pv = .slice a ps.length c := by
    obtain ⟨a, c, e, _⟩ := ho
    exact ⟨a, c, e⟩
  subst hpv
  have HR : Hid (Rd w p g zs tpos 0) := h
  have HT : Hid (Tab w) := ht
  clear h ho ht
  go_enter Tryd.func21, Tryd.ntmps21
  go_wp2_with fail
  refine (HC.out _ (tab_boxes HT.out _ _ _) (((HR.out.alloc _).alloc _).alloc _)).mono ?_
  rintro e w1 ⟨rfl, h1, h2⟩
  have HA : Hid (Ag w w1 p g zs tpos' why') := Ag.of HR.out h1 h2
  obtain ⟨hb1, hb2⟩ := new_block1 HR.out h2
  obtain ⟨d0, d1, d2, d3, d4, d5, hf1⟩ := six_of hb1
  obtain ⟨c0, c1, c2, c3, c4, c5, hf2⟩ := six_of hb2
  clear h1 h2 hb1 hb2 HC HR HT
  go_wp2
  refine bodyPost_ret (v := .agg #[.int .i64 8, .int .i64 0, .int .u64 0, .int .i64 num, .slice none 0 0, .string ⟨#[]⟩]) (by simp [results, Tryd.results21, go_sem, d0, d1, d2, d3, d4, d5]) rfl ?_
  refine ⟨.slice none 0 0, rfl, nil_sl _, fun k hk => (by cases hk), ?_⟩
  · iterate 6 refine Ag.set ?_ (by omega) _ _
    exact HA.out
set_option maxRecDepth 100000 in
set_option maxHeartbeats 2000000 in
theorem again_other {w : World} {p g : Nat} {zs : List Nat} {tpos : Nat} {kind pos num : Int} {n : Nat} {pv : Value} {ps : List Nat} {s : ByteArray} (h : Rd w p g zs tpos 0) (ho : Sl w pv ps) (k1 : kind ≠ 1) (k2 : kind ≠ 2) (k3 : kind ≠ 3) (k4 : kind ≠ 4) (k5 : kind ≠ 5) (k6 : kind ≠ 6) (k7 : kind ≠ 7) (k8 : kind ≠ 8) :
    Calls Tryd.prog 21 #[.pointer (some ⟨p, 0, none⟩), .agg #[.int .i64 kind, .int .i64 pos, .int .u64 (n : Int), .int .i64 num, pv, .string s]] w (AgainPost w p g zs ⟨kind, pos, n, num, pv, ps, s⟩ 0 [] ⟨#[]⟩ tpos 0) := by
  obtain ⟨pa, pc, hpv⟩ : ∃ a c, pv = .slice a ps.length c := by
    obtain ⟨a, c, e, _⟩ := ho
    exact ⟨a, c, e⟩
  subst hpv
  have HA : Hid (∀ x y z, Ag w (((w.alloc x).alloc y).alloc z) p g zs tpos 0) := fun x y z => Ag.of h (((h.alloc x).alloc y).alloc z) (Keeps.refl _ _)
  clear h ho
  go_enter Tryd.func21, Tryd.ntmps21
  go_wp2
  refine bodyPost_ret (v := .agg #[.int .i64 kind, .int .i64 0, .int .u64 0, .int .i64 num, .slice none 0 0, .string ⟨#[]⟩]) (by simp [results, Tryd.results21, go_sem]) rfl ?_
  refine ⟨.slice none 0 0, rfl, nil_sl _, fun k hk => (by cases hk), ?_⟩
  exact HA.out _ _ _
structure Took where
  n : Nat
  ps : List Nat
  s : List Nat
  pos : Nat
  why : Int
/-- what a reader that has refused nothing answers to a step, and where it stands behind it -/
def takeF (zs : List Nat) (pos : Nat) (o : OpV) : Took :=
  if o.kind = 1 then (if pos + 1 ≤ zs.length then ⟨Pl.num 1 (zs.drop pos), [], [], pos + 1, 0⟩ else ⟨0, [], [], pos, 10⟩)
  else if o.kind = 2 then (if pos + 2 ≤ zs.length then ⟨Pl.num 2 (zs.drop pos), [], [], pos + 2, 0⟩ else ⟨0, [], [], pos, 10⟩)
  else if o.kind = 3 then (if pos + 4 ≤ zs.length then ⟨Pl.num 4 (zs.drop pos), [], [], pos + 4, 0⟩ else ⟨0, [], [], pos, 10⟩)
  else if o.kind = 4 then (if pos + 8 ≤ zs.length then ⟨Pl.num 8 (zs.drop pos), [], [], pos + 8, 0⟩ else ⟨0, [], [], pos, 10⟩)
  else if o.kind = 5 then (if pos + o.ps.length ≤ zs.length then ⟨0, (zs.drop pos).take o.ps.length, [], pos + o.ps.length, 0⟩ else ⟨0, [], [], pos, 10⟩)
  else if o.kind = 6 then
    (if zs.length < pos + 2 then ⟨0, [], [], pos, 10⟩
    else if o.s.size < Pl.num 2 (zs.drop pos) then ⟨0, [], [], pos, 3⟩
    else if zs.length < pos + 2 + Pl.num 2 (zs.drop pos) then ⟨0, [], [], pos, 10⟩
    else ⟨0, [], (zs.drop (pos + 2)).take (Pl.num 2 (zs.drop pos)), pos + 2 + Pl.num 2 (zs.drop pos), 0⟩)
  else if o.kind = 7 then
    (if ¬ (1 ≤ o.num ∧ o.num ≤ 4096) then ⟨0, [], [], pos, 1⟩
    else if zs.length < pos + gapN pos o.num.toNat then ⟨0, [], [], pos, 10⟩
    else if ∀ z ∈ (zs.drop pos).take (gapN pos o.num.toNat), z = 0 then ⟨0, [], [], pos + gapN pos o.num.toNat, 0⟩
    else ⟨0, [], [], pos, 5⟩)
  else if o.kind = 8 then
    (if ¬ (0 ≤ o.num ∧ o.num ≤ (pos : Int)) then ⟨0, [], [], pos, 1⟩
    else if zs.length < pos + 4 then ⟨0, [], [], pos, 10⟩
    else if Pl.num 4 (zs.drop pos) = Pl.crc ((zs.drop o.num.toNat).take (pos - o.num.toNat)) then ⟨0, [], [], pos + 4, 0⟩
    else ⟨0, [], [], pos, 11⟩)
  else ⟨0, [], [], pos, 0⟩
def TookPost (w : World) (p g : Nat) (zs : List Nat) (o : OpV) (t : Took) : Ending → World → Prop := AgainPost w p g zs o t.n t.ps (mkS t.s) t.pos t.why
theorem num_lt {zs : List Nat} (h : ∀ z ∈ zs, z < 256) (k : Nat) (pos : Nat) : Pl.num k (zs.drop pos) < 256 ^ k := Pl.acc_lt (drop_small h pos) 0 k
theorem again_took {w : World} {p g : Nat} {zs : List Nat} {pos : Nat} {o : OpV} {t : Took} (ht : takeF zs pos o = t) (h : Calls Tryd.prog 21 #[.pointer (some ⟨p, 0, none⟩), .agg o.vals] w (TookPost w p g zs o t)) : Calls Tryd.prog 21 #[.pointer (some ⟨p, 0, none⟩), .agg o.vals] w (TookPost w p g zs o (takeF zs pos o)) := by
  rw [ht]; exact h
theorem text_to {a b : Nat} (h : ¬ a < b) : (b : Int) ≤ (a : Int) := by omega
theorem text_over {a b : Nat} (h : a < b) : (a : Int) < (b : Int) := by omega
theorem again_any {w : World} {p g : Nat} {zs : List Nat} {pos : Nat} {o : OpV} (h : Rd w p g zs pos 0) (ho : Sl w o.pv o.ps) (ht : Tab w) :
    Calls Tryd.prog 21 #[.pointer (some ⟨p, 0, none⟩), .agg o.vals] w (TookPost w p g zs o (takeF zs pos o)) := by
  have hsm := h.2.2.2.2.1
  obtain ⟨kind, oat, n, num, pv, ps, s⟩ := o
  by_cases k1 : kind = 1
  · subst k1
    by_cases hl : pos + 1 ≤ zs.length
    · exact again_took (if_pos hl) (again_byte h ht ho (num_lt hsm 1 pos) (fun W _ hr => ru8_yes hr hl))
    · exact again_took (if_neg hl) (again_byte h ht ho (m := 0) (by decide) (fun W _ hr => ru8_no hr (Nat.lt_of_not_le hl)))
  by_cases k2 : kind = 2
  · subst k2
    by_cases hl : pos + 2 ≤ zs.length
    · exact again_took (if_pos hl) (again_half h ht ho (num_lt hsm 2 pos) (fun W _ hr => ru16_yes hr hl))
    · exact again_took (if_neg hl) (again_half h ht ho (m := 0) (by decide) (fun W _ hr => ru16_no hr (Nat.lt_of_not_le hl)))
  by_cases k3 : kind = 3
  · subst k3
    by_cases hl : pos + 4 ≤ zs.length
    · exact again_took (if_pos hl) (again_word h ht ho (num_lt hsm 4 pos) (fun W _ hr => ru32_yes hr hl))
    · exact again_took (if_neg hl) (again_word h ht ho (m := 0) (by decide) (fun W _ hr => ru32_no hr (Nat.lt_of_not_le hl)))
  by_cases k4 : kind = 4
  · subst k4
    by_cases hl : pos + 8 ≤ zs.length
    · exact again_took (if_pos hl) (again_long h ht ho (fun W _ hr => ru64_yes hr hl))
    · exact again_took (if_neg hl) (again_long h ht ho (m := 0) (fun W _ hr => ru64_no hr (Nat.lt_of_not_le hl)))
  by_cases k5 : kind = 5
  · subst k5
    have hps : ps.length ≤ maxLen := by obtain ⟨_, _, _, h1, h2, _⟩ := ho; exact Nat.le_trans h1 h2
    by_cases hl : pos + ps.length ≤ zs.length
    · refine again_took (if_pos hl) (again_bytes h ht ho (fun W _ hr => (rbytes_yes hr hl).mono ?_))
      rintro e w' ⟨k, rfl, hk, hrow, _, hr', hkp⟩
      have hlen : ((zs.drop pos).take ps.length).length = ps.length := by rw [List.length_take, List.length_drop]; omega
      refine ⟨some ⟨k, 0, none⟩, ps.length, by rw [hlen], ?_, fun a e => by cases e; exact hk, hr', hkp⟩
      have := hrow.sl (fun z hz => drop_small hsm pos z (List.mem_of_mem_take hz)) 0 ps.length ps.length (by rw [hlen]; omega) (Nat.le_refl _) hps
      rw [List.drop_zero, List.take_of_length_le (Nat.le_of_eq hlen)] at this
      rw [hlen]
      exact this
    · refine again_took (if_neg hl) (again_bytes (qs := []) h ht ho (fun W _ hr => (rbytes_short hr (by unfold maxLen at hps; omega) (Nat.lt_of_not_le hl)).mono ?_))
      rintro e w' ⟨rfl, hr', hkp⟩
      exact ⟨none, 0, rfl, nil_sl _, fun a e => (by cases e), hr', hkp⟩
  by_cases k6 : kind = 6
  · subst k6
    by_cases hl : zs.length < pos + 2
    · exact again_took (if_pos hl) (again_text h ht ho (fun W _ hr => rtext_half hr hl))
    · have hl' := Nat.le_of_not_lt hl
      by_cases hm : s.size < Pl.num 2 (zs.drop pos)
      · exact again_took ((if_neg hl).trans (if_pos hm)) (again_text h ht ho (fun W _ hr => rtext_long hr hl' rfl (text_over hm)))
      · by_cases hs : zs.length < pos + 2 + Pl.num 2 (zs.drop pos)
        · exact again_took (((if_neg hl).trans (if_neg hm)).trans (if_pos hs)) (again_text h ht ho (fun W _ hr => rtext_short hr hl' rfl (text_to hm) hs))
        · exact again_took (((if_neg hl).trans (if_neg hm)).trans (if_neg hs)) (again_text h ht ho (fun W _ hr => rtext_yes hr (Nat.le_of_not_lt hs) rfl (text_to hm)))
  by_cases k7 : kind = 7
  · subst k7
    by_cases hn : ¬ (1 ≤ num ∧ num ≤ 4096)
    · exact again_took (if_pos hn) (again_pad h ht ho (fun W _ hr => rpad_bad hr (out_of hn)))
    · have hn' := Decidable.not_not.1 hn
      obtain ⟨al, rfl⟩ := Int.eq_ofNat_of_zero_le (show 0 ≤ num by omega)
      have h1 : 1 ≤ al := by omega
      have h2 : al ≤ 4096 := by omega
      by_cases hl : zs.length < pos + gapN pos al
      · exact again_took ((if_neg hn).trans (if_pos hl)) (again_pad h ht ho (fun W _ hr => rpad_short hr h1 h2 hl))
      · have hl' := Nat.le_of_not_lt hl
        by_cases hz : ∀ z ∈ (zs.drop pos).take (gapN pos al), z = 0
        · exact again_took (((if_neg hn).trans (if_neg hl)).trans (if_pos hz)) (again_pad h ht ho (fun W _ hr => rpad_yes hr h1 h2 hl' hz))
        · exact again_took (((if_neg hn).trans (if_neg hl)).trans (if_neg hz)) (again_pad h ht ho (fun W _ hr => rpad_form hr h1 h2 hl' hz))
  by_cases k8 : kind = 8
  · subst k8
    by_cases hn : ¬ (0 ≤ num ∧ num ≤ (pos : Int))
    · exact again_took (if_pos hn) (again_seal h ht ho (fun W _ hr => rseal_bad hr (out_of2 hn)))
    · have hn' := Decidable.not_not.1 hn
      obtain ⟨fr, rfl⟩ := Int.eq_ofNat_of_zero_le hn'.1
      have h1 : fr ≤ pos := by omega
      by_cases hl : zs.length < pos + 4
      · exact again_took ((if_neg hn).trans (if_pos hl)) (again_seal h ht ho (fun W _ hr => rseal_short hr h1 hl))
      · have hl' := Nat.le_of_not_lt hl
        by_cases hz : Pl.num 4 (zs.drop pos) = Pl.crc ((zs.drop fr).take (pos - fr))
        · exact again_took (((if_neg hn).trans (if_neg hl)).trans (if_pos hz)) (again_seal h ht ho (fun W hT hr => rseal_yes hT hr h1 hl' hz))
        · exact again_took (((if_neg hn).trans (if_neg hl)).trans (if_neg hz)) (again_seal h ht ho (fun W hT hr => rseal_sum hT hr h1 hl' hz))
  exact again_took (t := ⟨0, [], [], pos, 0⟩) (by simp only [takeF, if_neg k1, if_neg k2, if_neg k3, if_neg k4, if_neg k5, if_neg k6, if_neg k7, if_neg k8]) (again_other h ho k1 k2 k3 k4 k5 k6 k7 k8)
end Go.Proofs.YtlcjdofciogfaaaDoor
