/- takes: a step on a reader and on the document's. Own work (generated). -/
import Derived.Test.YtceljnkbkpgdjaaDoorRdTold
namespace Go.Proofs.YtceljnkbkpgdjaaDoor
open Go.RowKit
set_option linter.unusedVariables false
/-- what takes leaves -/
def TkPost (w : World) (p g r : Nat) (v : Value) (zs : List Nat) (x : Nat × Int) (w' : World) : Prop :=
  Rd w' p g zs x.1 x.2 ∧ Rr w' r v zs x.1 x.2 ∧ Keeps (fun k => k = p ∨ k = r) w w'
theorem RrPost.joins {w w0 w1 w2 : World} {p g r : Nat} {v : Value} {zs : List Nat} {x : Nat × Int} (hpr : p ≠ r) (hgr : g ≠ r) (k0 : Keeps (fun _ => False) w w0) (h1 : RdPost w0 p g zs x w1) (h2 : RrPost w1 r v zs x w2) : TkPost w p g r v zs x w2 :=
  ⟨h1.1.keeps h2.2 hpr hgr, h2.1, ((k0.mono (fun _ _ e => e.elim)).trans h1.2 (fun _ _ e => Or.inl e)).trans h2.2 (fun _ _ e => Or.inr e)⟩
theorem Rr.past {w w0 w1 : World} {p g r : Nat} {v : Value} {zs : List Nat} {pos : Nat} {why : Int} {x : Nat × Int} (hr : Rr w r v zs pos why) (hpr : p ≠ r) (hvp : zs ≠ [] → ∀ k, v.ownBlock = some k → k ≠ p) (k0 : Keeps (fun _ => False) w w0) (h1 : RdPost w0 p g zs x w1) : Rr w1 r v zs pos why :=
  (hr.keeps k0 id (fun _ _ _ => id)).keeps h1.2 (fun e => hpr e.symm) (fun hz k hk e => hvp hz k hk e)
/-- the box of the step stays -/
theorem box_past {w w1 : World} {p g : Nat} {zs : List Nat} {x : Nat × Int} {cs : Array Value} {t : TypeId} (hp : p < w.heap.size) (h1 : RdPost (w.alloc (.cells cs t)) p g zs x w1) (j : Nat) (y : Value) (hj : cs[j]? = some y) : w1.cell? ⟨w.heap.size, j, none⟩ = some y := by
  have hb := (h1.2.block w.heap.size (by simp) (by omega)).trans (heap_alloc_new w (.cells cs t))
  rw [cell_of_row _ _ _ _ _ _ hb]
  exact hj
set_option maxRecDepth 100000 in
set_option maxHeartbeats 2000000 in
theorem takes_Byte {w : World} {p g r : Nat} {v xv : Value} {zs : List Nat} {pos : Nat} {why : Int} {pos0 num : Int} {n : Nat} {pa : Option Addr} {pl pc : Nat} {s : ByteArray} (h : Rd w p g zs pos why) (hr : Rr w r v zs pos why) (hpr : p ≠ r) (hgr : g ≠ r) (hvp : zs ≠ [] → ∀ k, v.ownBlock = some k → k ≠ p) :
    Calls Tryd.prog 25 #[xv, .pointer (some ⟨p, 0, none⟩), .pointer (some ⟨r, 0, none⟩), .agg #[.int .i64 1, .int .i64 pos0, .int .u64 (n : Int), .int .i64 num, .slice pa pl pc, .string s]] w fun e w' => e = .returned (.bool true) ∧ TkPost w p g r v zs (numA 1 zs pos why).2 w' := by
  have hba : Below w.heap.size w (w.alloc (.cells #[.int .i64 1, .int .i64 pos0, .int .u64 (n : Int), .int .i64 num, .slice pa pl pc, .string s] 36)) := (Below.refl _ _).alloc (Nat.le_refl _) _
  have HK0 : Hid (Keeps (fun _ => False) w (w.alloc (.cells #[.int .i64 1, .int .i64 pos0, .int .u64 (n : Int), .int .i64 num, .slice pa pl pc, .string s] 36))) := Keeps.alloc w _
  have hlt : (numA 1 zs pos why).1 < 256 ^ 1 := numA_lt h.2.2.2.2.1 (by decide)
  have hp := prByte_any (h.keeps HK0.out id id)
  have HN : Hid (∀ W', RdPost (w.alloc (.cells #[.int .i64 1, .int .i64 pos0, .int .u64 (n : Int), .int .i64 num, .slice pa pl pc, .string s] 36)) p g zs (numA 1 zs pos why).2 W' → Calls Tryd.prog 47 #[.pointer (some ⟨r, 0, none⟩), .int .i64 1] W' fun e w' => e = .returned (.int .u64 ((numA 1 zs pos why).1 : Int)) ∧ TkPost w p g r v zs (numA 1 zs pos why).2 w') := fun W' h1 =>
    (rrNum_any (b := 1) (hr.past hpr hvp HK0.out h1) (by decide) (by decide)).mono fun e w' hx => ⟨hx.1, RrPost.joins hpr hgr HK0.out h1 hx.2⟩
  obtain ⟨m, hm⟩ : ∃ m, (numA 1 zs pos why).1 = m := ⟨_, rfl⟩
  rw [hm] at hlt hp HN
  have hlt : m < 256 := hlt
  have jw : IntKind.u64.wrap (m : Int) = (m : Int) := by rw [IntKind.wrap_u64]; omega
  have HP := Lib.hid hp
  clear h hr hm hp hba hpr hgr hvp
  go_enter Tryd.func25, Tryd.ntmps25
  go_wp2_with fail
  refine HP.out.mono ?_
  rintro e w1 ⟨rfl, h1⟩
  have HQ := Lib.hid (HN.out _ h1)
  clear h1 HN HP
  go_wp2_with fail
  refine HQ.out.mono ?_
  rintro e w2 ⟨rfl, h2⟩
  have HZ := Lib.hid h2
  clear h2 HQ
  go_wp2_with fail
  go_ret
  exact ⟨rfl, HZ.out⟩
set_option maxRecDepth 100000 in
set_option maxHeartbeats 2000000 in
theorem takes_Half {w : World} {p g r : Nat} {v xv : Value} {zs : List Nat} {pos : Nat} {why : Int} {pos0 num : Int} {n : Nat} {pa : Option Addr} {pl pc : Nat} {s : ByteArray} (h : Rd w p g zs pos why) (hr : Rr w r v zs pos why) (hpr : p ≠ r) (hgr : g ≠ r) (hvp : zs ≠ [] → ∀ k, v.ownBlock = some k → k ≠ p) :
    Calls Tryd.prog 25 #[xv, .pointer (some ⟨p, 0, none⟩), .pointer (some ⟨r, 0, none⟩), .agg #[.int .i64 2, .int .i64 pos0, .int .u64 (n : Int), .int .i64 num, .slice pa pl pc, .string s]] w fun e w' => e = .returned (.bool true) ∧ TkPost w p g r v zs (numA 2 zs pos why).2 w' := by
  have hba : Below w.heap.size w (w.alloc (.cells #[.int .i64 2, .int .i64 pos0, .int .u64 (n : Int), .int .i64 num, .slice pa pl pc, .string s] 36)) := (Below.refl _ _).alloc (Nat.le_refl _) _
  have HK0 : Hid (Keeps (fun _ => False) w (w.alloc (.cells #[.int .i64 2, .int .i64 pos0, .int .u64 (n : Int), .int .i64 num, .slice pa pl pc, .string s] 36))) := Keeps.alloc w _
  have hlt : (numA 2 zs pos why).1 < 256 ^ 2 := numA_lt h.2.2.2.2.1 (by decide)
  have hp := prHalf_any (h.keeps HK0.out id id)
  have HN : Hid (∀ W', RdPost (w.alloc (.cells #[.int .i64 2, .int .i64 pos0, .int .u64 (n : Int), .int .i64 num, .slice pa pl pc, .string s] 36)) p g zs (numA 2 zs pos why).2 W' → Calls Tryd.prog 47 #[.pointer (some ⟨r, 0, none⟩), .int .i64 2] W' fun e w' => e = .returned (.int .u64 ((numA 2 zs pos why).1 : Int)) ∧ TkPost w p g r v zs (numA 2 zs pos why).2 w') := fun W' h1 =>
    (rrNum_any (b := 2) (hr.past hpr hvp HK0.out h1) (by decide) (by decide)).mono fun e w' hx => ⟨hx.1, RrPost.joins hpr hgr HK0.out h1 hx.2⟩
  obtain ⟨m, hm⟩ : ∃ m, (numA 2 zs pos why).1 = m := ⟨_, rfl⟩
  rw [hm] at hlt hp HN
  have hlt : m < 65536 := hlt
  have jw : IntKind.u64.wrap (m : Int) = (m : Int) := by rw [IntKind.wrap_u64]; omega
  have HP := Lib.hid hp
  clear h hr hm hp hba hpr hgr hvp
  go_enter Tryd.func25, Tryd.ntmps25
  go_wp2_with fail
  refine HP.out.mono ?_
  rintro e w1 ⟨rfl, h1⟩
  have HQ := Lib.hid (HN.out _ h1)
  clear h1 HN HP
  go_wp2_with fail
  refine HQ.out.mono ?_
  rintro e w2 ⟨rfl, h2⟩
  have HZ := Lib.hid h2
  clear h2 HQ
  go_wp2_with fail
  go_ret
  exact ⟨rfl, HZ.out⟩
set_option maxRecDepth 100000 in
set_option maxHeartbeats 2000000 in
theorem takes_Word {w : World} {p g r : Nat} {v xv : Value} {zs : List Nat} {pos : Nat} {why : Int} {pos0 num : Int} {n : Nat} {pa : Option Addr} {pl pc : Nat} {s : ByteArray} (h : Rd w p g zs pos why) (hr : Rr w r v zs pos why) (hpr : p ≠ r) (hgr : g ≠ r) (hvp : zs ≠ [] → ∀ k, v.ownBlock = some k → k ≠ p) :
    Calls Tryd.prog 25 #[xv, .pointer (some ⟨p, 0, none⟩), .pointer (some ⟨r, 0, none⟩), .agg #[.int .i64 3, .int .i64 pos0, .int .u64 (n : Int), .int .i64 num, .slice pa pl pc, .string s]] w fun e w' => e = .returned (.bool true) ∧ TkPost w p g r v zs (numA 4 zs pos why).2 w' := by
  have hba : Below w.heap.size w (w.alloc (.cells #[.int .i64 3, .int .i64 pos0, .int .u64 (n : Int), .int .i64 num, .slice pa pl pc, .string s] 36)) := (Below.refl _ _).alloc (Nat.le_refl _) _
  have HK0 : Hid (Keeps (fun _ => False) w (w.alloc (.cells #[.int .i64 3, .int .i64 pos0, .int .u64 (n : Int), .int .i64 num, .slice pa pl pc, .string s] 36))) := Keeps.alloc w _
  have hlt : (numA 4 zs pos why).1 < 256 ^ 4 := numA_lt h.2.2.2.2.1 (by decide)
  have hp := prWord_any (h.keeps HK0.out id id)
  have HN : Hid (∀ W', RdPost (w.alloc (.cells #[.int .i64 3, .int .i64 pos0, .int .u64 (n : Int), .int .i64 num, .slice pa pl pc, .string s] 36)) p g zs (numA 4 zs pos why).2 W' → Calls Tryd.prog 47 #[.pointer (some ⟨r, 0, none⟩), .int .i64 4] W' fun e w' => e = .returned (.int .u64 ((numA 4 zs pos why).1 : Int)) ∧ TkPost w p g r v zs (numA 4 zs pos why).2 w') := fun W' h1 =>
    (rrNum_any (b := 4) (hr.past hpr hvp HK0.out h1) (by decide) (by decide)).mono fun e w' hx => ⟨hx.1, RrPost.joins hpr hgr HK0.out h1 hx.2⟩
  obtain ⟨m, hm⟩ : ∃ m, (numA 4 zs pos why).1 = m := ⟨_, rfl⟩
  rw [hm] at hlt hp HN
  have hlt : m < 4294967296 := hlt
  have jw : IntKind.u64.wrap (m : Int) = (m : Int) := by rw [IntKind.wrap_u64]; omega
  have HP := Lib.hid hp
  clear h hr hm hp hba hpr hgr hvp
  go_enter Tryd.func25, Tryd.ntmps25
  go_wp2_with fail
  refine HP.out.mono ?_
  rintro e w1 ⟨rfl, h1⟩
  have HQ := Lib.hid (HN.out _ h1)
  clear h1 HN HP
  go_wp2_with fail
  refine HQ.out.mono ?_
  rintro e w2 ⟨rfl, h2⟩
  have HZ := Lib.hid h2
  clear h2 HQ
  go_wp2_with fail
  go_ret
  exact ⟨rfl, HZ.out⟩
set_option maxRecDepth 100000 in
set_option maxHeartbeats 2000000 in
theorem takes_Long {w : World} {p g r : Nat} {v xv : Value} {zs : List Nat} {pos : Nat} {why : Int} {pos0 num : Int} {n : Nat} {pa : Option Addr} {pl pc : Nat} {s : ByteArray} (h : Rd w p g zs pos why) (hr : Rr w r v zs pos why) (hpr : p ≠ r) (hgr : g ≠ r) (hvp : zs ≠ [] → ∀ k, v.ownBlock = some k → k ≠ p) :
    Calls Tryd.prog 25 #[xv, .pointer (some ⟨p, 0, none⟩), .pointer (some ⟨r, 0, none⟩), .agg #[.int .i64 4, .int .i64 pos0, .int .u64 (n : Int), .int .i64 num, .slice pa pl pc, .string s]] w fun e w' => e = .returned (.bool true) ∧ TkPost w p g r v zs (numA 8 zs pos why).2 w' := by
  have hba : Below w.heap.size w (w.alloc (.cells #[.int .i64 4, .int .i64 pos0, .int .u64 (n : Int), .int .i64 num, .slice pa pl pc, .string s] 36)) := (Below.refl _ _).alloc (Nat.le_refl _) _
  have HK0 : Hid (Keeps (fun _ => False) w (w.alloc (.cells #[.int .i64 4, .int .i64 pos0, .int .u64 (n : Int), .int .i64 num, .slice pa pl pc, .string s] 36))) := Keeps.alloc w _
  have hlt : (numA 8 zs pos why).1 < 256 ^ 8 := numA_lt h.2.2.2.2.1 (by decide)
  have hp := prLong_any (h.keeps HK0.out id id)
  have HN : Hid (∀ W', RdPost (w.alloc (.cells #[.int .i64 4, .int .i64 pos0, .int .u64 (n : Int), .int .i64 num, .slice pa pl pc, .string s] 36)) p g zs (numA 8 zs pos why).2 W' → Calls Tryd.prog 47 #[.pointer (some ⟨r, 0, none⟩), .int .i64 8] W' fun e w' => e = .returned (.int .u64 ((numA 8 zs pos why).1 : Int)) ∧ TkPost w p g r v zs (numA 8 zs pos why).2 w') := fun W' h1 =>
    (rrNum_any (b := 8) (hr.past hpr hvp HK0.out h1) (by decide) (by decide)).mono fun e w' hx => ⟨hx.1, RrPost.joins hpr hgr HK0.out h1 hx.2⟩
  obtain ⟨m, hm⟩ : ∃ m, (numA 8 zs pos why).1 = m := ⟨_, rfl⟩
  rw [hm] at hlt hp HN
  have hlt : m < 18446744073709551616 := hlt
  have HP := Lib.hid hp
  clear h hr hm hp hba hpr hgr hvp
  go_enter Tryd.func25, Tryd.ntmps25
  go_wp2_with fail
  refine HP.out.mono ?_
  rintro e w1 ⟨rfl, h1⟩
  have HQ := Lib.hid (HN.out _ h1)
  clear h1 HN HP
  go_wp2_with fail
  refine HQ.out.mono ?_
  rintro e w2 ⟨rfl, h2⟩
  have HZ := Lib.hid h2
  clear h2 HQ
  go_wp2_with fail
  go_ret
  exact ⟨rfl, HZ.out⟩
set_option maxRecDepth 100000 in
set_option maxHeartbeats 2000000 in
theorem takes_Pad {w : World} {p g r : Nat} {v xv : Value} {zs : List Nat} {pos : Nat} {why : Int} {pos0 num : Int} {n : Nat} {pa : Option Addr} {pl pc : Nat} {s : ByteArray} (h : Rd w p g zs pos why) (hr : Rr w r v zs pos why) (hpr : p ≠ r) (hgr : g ≠ r) (hvp : zs ≠ [] → ∀ k, v.ownBlock = some k → k ≠ p) (ht : Tab w) :
    Calls Tryd.prog 25 #[xv, .pointer (some ⟨p, 0, none⟩), .pointer (some ⟨r, 0, none⟩), .agg #[.int .i64 7, .int .i64 pos0, .int .u64 (n : Int), .int .i64 num, .slice pa pl pc, .string s]] w fun e w' => e = .returned (.bool true) ∧ TkPost w p g r v zs (padA num zs pos why) w' := by
  have hba : Below w.heap.size w (w.alloc (.cells #[.int .i64 7, .int .i64 pos0, .int .u64 (n : Int), .int .i64 num, .slice pa pl pc, .string s] 36)) := (Below.refl _ _).alloc (Nat.le_refl _) _
  have htx : Tab (w.alloc (.cells #[.int .i64 7, .int .i64 pos0, .int .u64 (n : Int), .int .i64 num, .slice pa pl pc, .string s] 36)) := ht.below hba
  have HK0 : Hid (Keeps (fun _ => False) w (w.alloc (.cells #[.int .i64 7, .int .i64 pos0, .int .u64 (n : Int), .int .i64 num, .slice pa pl pc, .string s] 36))) := Keeps.alloc w _
  have HP := Lib.hid (prPad_any (al := num) (h.keeps HK0.out id id))
  have hlp := h.lt
  have HN : Hid (∀ W', RdPost (w.alloc (.cells #[.int .i64 7, .int .i64 pos0, .int .u64 (n : Int), .int .i64 num, .slice pa pl pc, .string s] 36)) p g zs (padA num zs pos why) W' → W'.cell? ⟨w.heap.size, 3, none⟩ = some (.int .i64 num) ∧ Calls Tryd.prog 56 #[.pointer (some ⟨r, 0, none⟩), .int .i64 num] W' fun e w' => e = .returned (.tuple #[]) ∧ TkPost w p g r v zs (padA num zs pos why) w') := fun W' h1 =>
    ⟨box_past hlp h1 3 _ rfl, (rrPad_any (hr.past hpr hvp HK0.out h1)).mono fun e w' hx => ⟨hx.1, RrPost.joins hpr hgr HK0.out h1 hx.2⟩⟩
  clear h hr hba hpr hgr hvp ht htx hlp
  go_enter Tryd.func25, Tryd.ntmps25
  go_wp2_with fail
  refine HP.out.mono ?_
  rintro e w1 ⟨rfl, h1⟩
  obtain ⟨c3, hq⟩ := HN.out _ h1
  have HQ := Lib.hid hq
  clear h1 HN HP hq
  go_wp2_with fail
  refine HQ.out.mono ?_
  rintro e w2 ⟨rfl, h2⟩
  have HZ := Lib.hid h2
  clear h2 HQ
  go_wp2_with fail
  go_ret
  exact ⟨rfl, HZ.out⟩
set_option maxRecDepth 100000 in
set_option maxHeartbeats 2000000 in
theorem takes_Seal {w : World} {p g r : Nat} {v xv : Value} {zs : List Nat} {pos : Nat} {why : Int} {pos0 num : Int} {n : Nat} {pa : Option Addr} {pl pc : Nat} {s : ByteArray} (h : Rd w p g zs pos why) (hr : Rr w r v zs pos why) (hpr : p ≠ r) (hgr : g ≠ r) (hvp : zs ≠ [] → ∀ k, v.ownBlock = some k → k ≠ p) (ht : Tab w) :
    Calls Tryd.prog 25 #[xv, .pointer (some ⟨p, 0, none⟩), .pointer (some ⟨r, 0, none⟩), .agg #[.int .i64 8, .int .i64 pos0, .int .u64 (n : Int), .int .i64 num, .slice pa pl pc, .string s]] w fun e w' => e = .returned (.bool true) ∧ TkPost w p g r v zs (sealA num zs pos why) w' := by
  have hba : Below w.heap.size w (w.alloc (.cells #[.int .i64 8, .int .i64 pos0, .int .u64 (n : Int), .int .i64 num, .slice pa pl pc, .string s] 36)) := (Below.refl _ _).alloc (Nat.le_refl _) _
  have htx : Tab (w.alloc (.cells #[.int .i64 8, .int .i64 pos0, .int .u64 (n : Int), .int .i64 num, .slice pa pl pc, .string s] 36)) := ht.below hba
  have HK0 : Hid (Keeps (fun _ => False) w (w.alloc (.cells #[.int .i64 8, .int .i64 pos0, .int .u64 (n : Int), .int .i64 num, .slice pa pl pc, .string s] 36))) := Keeps.alloc w _
  have HP := Lib.hid (prSeal_any (fr := num) htx (h.keeps HK0.out id id))
  have hlp := h.lt
  have HN : Hid (∀ W', RdPost (w.alloc (.cells #[.int .i64 8, .int .i64 pos0, .int .u64 (n : Int), .int .i64 num, .slice pa pl pc, .string s] 36)) p g zs (sealA num zs pos why) W' → W'.cell? ⟨w.heap.size, 3, none⟩ = some (.int .i64 num) ∧ Calls Tryd.prog 58 #[.pointer (some ⟨r, 0, none⟩), .int .i64 num] W' fun e w' => e = .returned (.tuple #[]) ∧ TkPost w p g r v zs (sealA num zs pos why) w') := fun W' h1 =>
    ⟨box_past hlp h1 3 _ rfl, (rrSeal_any (hr.past hpr hvp HK0.out h1)).mono fun e w' hx => ⟨hx.1, RrPost.joins hpr hgr HK0.out h1 hx.2⟩⟩
  clear h hr hba hpr hgr hvp ht htx hlp
  go_enter Tryd.func25, Tryd.ntmps25
  go_wp2_with fail
  refine HP.out.mono ?_
  rintro e w1 ⟨rfl, h1⟩
  obtain ⟨c3, hq⟩ := HN.out _ h1
  have HQ := Lib.hid hq
  clear h1 HN HP hq
  go_wp2_with fail
  refine HQ.out.mono ?_
  rintro e w2 ⟨rfl, h2⟩
  have HZ := Lib.hid h2
  clear h2 HQ
  go_wp2_with fail
  go_ret
  exact ⟨rfl, HZ.out⟩
set_option maxRecDepth 100000 in
set_option maxHeartbeats 2000000 in
theorem takes_Text {w : World} {p g r : Nat} {v xv : Value} {zs : List Nat} {pos : Nat} {why : Int} {pos0 num : Int} {n : Nat} {pa : Option Addr} {pl pc : Nat} {s : ByteArray} (h : Rd w p g zs pos why) (hr : Rr w r v zs pos why) (hpr : p ≠ r) (hgr : g ≠ r) (hvp : zs ≠ [] → ∀ k, v.ownBlock = some k → k ≠ p) :
    Calls Tryd.prog 25 #[xv, .pointer (some ⟨p, 0, none⟩), .pointer (some ⟨r, 0, none⟩), .agg #[.int .i64 6, .int .i64 pos0, .int .u64 (n : Int), .int .i64 num, .slice pa pl pc, .string s]] w fun e w' => e = .returned (.bool true) ∧ TkPost w p g r v zs (textA num zs pos why).2 w' := by
  have HK0 : Hid (Keeps (fun _ => False) w (w.alloc (.cells #[.int .i64 6, .int .i64 pos0, .int .u64 (n : Int), .int .i64 num, .slice pa pl pc, .string s] 36)).drew) := (Keeps.alloc (S := fun _ => False) w (.cells #[.int .i64 6, .int .i64 pos0, .int .u64 (n : Int), .int .i64 num, .slice pa pl pc, .string s] 36)).drew
  have HP0 := prText_any (most := num) (h.keeps HK0.out id id)
  have hlp := h.lt
  have q3 : (w.alloc (.cells #[.int .i64 6, .int .i64 pos0, .int .u64 (n : Int), .int .i64 num, .slice pa pl pc, .string s] 36)).cell? ⟨w.heap.size, 3, none⟩ = some (.int .i64 num) := by rw [cell_of_row _ _ _ _ _ _ (heap_alloc_new w _)]; rfl
  have HN0 : ∀ W', RdPost (w.alloc (.cells #[.int .i64 6, .int .i64 pos0, .int .u64 (n : Int), .int .i64 num, .slice pa pl pc, .string s] 36)).drew p g zs (textA num zs pos why).2 W' → W'.cell? ⟨w.heap.size, 3, none⟩ = some (.int .i64 num) ∧ Calls Tryd.prog 54 #[.pointer (some ⟨r, 0, none⟩), .int .i64 num] W' fun e w' => e = .returned (.string (textA num zs pos why).1) ∧ (w'.cell? ⟨w.heap.size, 3, none⟩ = some (.int .i64 num)) ∧ TkPost w p g r v zs (textA num zs pos why).2 w' := fun W' h1 => by
    have c3 : W'.cell? ⟨w.heap.size, 3, none⟩ = some (.int .i64 num) := by
      rw [World.cell?_of_block (w := (w.alloc (.cells #[.int .i64 6, .int .i64 pos0, .int .u64 (n : Int), .int .i64 num, .slice pa pl pc, .string s] 36)).drew) (a := ⟨w.heap.size, 3, none⟩) (h1.2.block w.heap.size (by simp) (by omega))]
      exact q3
    have hlr := hr.lt
    refine ⟨c3, (rrText_any (hr.past hpr hvp HK0.out h1)).mono fun e w' hx => ⟨hx.1, ?_, RrPost.joins hpr hgr HK0.out h1 hx.2⟩⟩
    rw [World.cell?_of_block (w := W') (a := ⟨w.heap.size, 3, none⟩) (hx.2.2.block w.heap.size (World.block_lt_of_cell? _ _ c3) (by omega))]
    exact c3
  obtain ⟨S, hS⟩ : ∃ S, (textA num zs pos why).1 = S := ⟨_, rfl⟩
  rw [hS] at HP0 HN0
  have HP := Lib.hid HP0
  have HN := Lib.hid HN0
  clear h hr hpr hgr hvp hlp HP0 HN0 hS
  go_enter Tryd.func25, Tryd.ntmps25
  go_wp2_with fail
  go_region_held3 (fun w' => w'.cell? ⟨w.heap.size, 3, none⟩ = some (.int .i64 num)) (first | exact q3 | exact hSA | exact hSB) (first
    | (go_at_call 53; refine HP.out.mono ?_; rintro e w1 ⟨rfl, h1⟩; have hSA := (HN.out _ h1).1; have HQ := Lib.hid (HN.out _ h1).2; clear h1)
    | (go_at_call 54; refine HQ.out.mono ?_; rintro e w2 ⟨rfl, hSB, h2⟩; have HZ := Lib.hid h2; clear h2))
  go_wp2_with fail
  go_ret
  exact ⟨rfl, HZ.out⟩
set_option maxRecDepth 100000 in
set_option maxHeartbeats 2000000 in
theorem takes_none {w : World} {p g r : Nat} {v xv : Value} {zs : List Nat} {pos : Nat} {why : Int} {pos0 num : Int} {n : Nat} {pa : Option Addr} {pl pc : Nat} {s : ByteArray} (h : Rd w p g zs pos why) (hr : Rr w r v zs pos why) (hpr : p ≠ r) (hgr : g ≠ r) (hvp : zs ≠ [] → ∀ k, v.ownBlock = some k → k ≠ p) {kind : Int} (e1 : kind ≠ 1) (e2 : kind ≠ 2) (e3 : kind ≠ 3) (e4 : kind ≠ 4) (e5 : kind ≠ 5) (e6 : kind ≠ 6) (e7 : kind ≠ 7) (e8 : kind ≠ 8) :
    Calls Tryd.prog 25 #[xv, .pointer (some ⟨p, 0, none⟩), .pointer (some ⟨r, 0, none⟩), .agg #[.int .i64 kind, .int .i64 pos0, .int .u64 (n : Int), .int .i64 num, .slice pa pl pc, .string s]] w fun e w' => e = .returned (.bool true) ∧ TkPost w p g r v zs (pos, why) w' := by
  have HF : Hid (∀ Y, TkPost w p g r v zs (pos, why) (w.alloc Y)) := fun Y => ⟨h.keeps (S := fun _ => False) (Keeps.alloc w Y) id id, hr.keeps (S := fun _ => False) (Keeps.alloc w Y) id (fun _ _ _ => id), Keeps.alloc w Y⟩
  have f1 : (kind == 1) = false := by simpa using e1
  have f2 : (kind == 2) = false := by simpa using e2
  have f3 : (kind == 3) = false := by simpa using e3
  have f4 : (kind == 4) = false := by simpa using e4
  have f5 : (kind == 5) = false := by simpa using e5
  have f6 : (kind == 6) = false := by simpa using e6
  have f7 : (kind == 7) = false := by simpa using e7
  have f8 : (kind == 8) = false := by simpa using e8
  clear h hr hpr hgr hvp e1 e2 e3 e4 e5 e6 e7 e8
  go_enter Tryd.func25, Tryd.ntmps25
  go_wp2_with fail
  go_ret
  exact ⟨rfl, HF.out _⟩
end Go.Proofs.YtceljnkbkpgdjaaDoor
