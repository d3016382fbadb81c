/- Parse of no text. Own work. -/
import Derived.Test.YtmkibolkcjallaaGreatDoorSyParB
namespace Go.Proofs.YtmkibolkcjallaaGreatDoor
open Go.RowKit Sc
theorem sl_none (w : World) : Sl w (.slice none 0 0) [] := ⟨none, 0, rfl, by simp, by simp [maxLen], by simp, fun _ => rfl, fun i hi => by simp at hi⟩
set_option maxRecDepth 100000 in
set_option maxHeartbeats 4000000 in
theorem policy_nil {w : World} {pb base lc : Nat} {par : Par} {la : Option Addr} (hp : ParB w pb par) (hl : par.list = .slice la 0 lc) (hw : OwnS w base par.words []) (hne : par.words.ownBlock ≠ some pb) (hbase : base ≤ w.heap.size) :
    Calls Tryz.prog 11 #[.pointer (some ⟨pb, 0, none⟩)] w fun e w' => e = stopE 60 ∧ ∃ par', ParB w' pb par' ∧ par'.wrong = par.end_ ∧ par'.why = 60 ∧ Mv pb base w w' := by
  have HN := Lib.hid (needs_none ⟨#[115, 121, 115, 116, 101, 109]⟩ hp hl hw hne (by simp) hbase)
  have HW := Lib.hid hw
  clear hp hl hw hne hbase
  go_enter Tryz.func11, Tryz.ntmps11
  go_wp2_with fail
  refine HN.out.mono ?_
  rintro e w1 ⟨rfl, u1, h1, hk1⟩
  exact ⟨rfl, rfl, _, h1, rfl, rfl, Mv.of HW.out hk1⟩
set_option maxRecDepth 100000 in
set_option maxHeartbeats 4000000 in
theorem parse_N {w : World} (ht : Tabs w) (h9 : 4 ≤ w.heap.size) :
    Calls Tryz.prog 5 #[.slice none 0 0] w fun e w' => e = .returned (.tuple #[.agg treeZ, .agg #[.int .i64 0, .int .i64 1, .int .i64 1], .int .i64 60]) ∧ Below w.heap.size w w' := by
  have hmf : ∀ (fn : Fn) (first cap : Array Value) (w : World), (Instr.makeFunc fn first cap).run Tryz.prog w = .ok (.func fn first cap) w := fun _ _ _ _ => rfl
  go_enter_defers Tryz.func5, Tryz.ntmps5
  go_wp2_with fail
  have HX4 := Lib.hid (Bx.start w (Value.slice none 0 0))
  obtain ⟨W4, hW4⟩ : ∃ W4, (((w.alloc (Obj.cells #[Value.slice none 0 0] 34)).alloc (Obj.cells #[Value.int IntKind.i64 0, Value.string ⟨#[]⟩, Value.int IntKind.i64 0, Value.slice none 0 0, Value.slice none 0 0, Value.slice none 0 0, Value.slice none 0 0] 28)).alloc (Obj.cells #[Value.int IntKind.i64 0, Value.int IntKind.i64 0, Value.int IntKind.i64 0] 30)).alloc (Obj.cells #[Value.int IntKind.i64 0] 31) = W4 := ⟨_, rfl⟩
  have HB4 : Hid (Below w.heap.size w W4) := hW4 ▸ ((((Below.refl _ _).alloc (Nat.le_refl _) _).alloc (by simp) _).alloc (by simp; omega) _).alloc (by simp; omega) _
  have HZ4 : Hid (W4.heap.size = w.heap.size + 4) := show W4.heap.size = w.heap.size + 4 by rw [← hW4]; simp
  rw [hW4] at HX4 ⊢
  refine (ahead_ok (ht.below HB4.out) (sl_none W4) (fun k hk => by cases hk) (Nat.le_trans h9 HB4.out.size) (zs := []) (by kernel_rfl)).mono ?_
  rintro e w5 ⟨lv, rfl, hT5, hb5⟩
  obtain ⟨la, lc, rfl⟩ := hT5.form
  have HB5 : Hid (Below w.heap.size w w5) := HB4.out.trans (hb5.mono HB4.out.size)
  have HX5 : Hid (Bx w.heap.size w5 (Value.slice none 0 0)) := HX4.out.below hb5
  have HZ5 : Hid (w.heap.size + 4 ≤ w5.heap.size) := HZ4.out ▸ hb5.size
  clear hT5 hb5 hW4 HX4 HB4 ht
  rw [show (Sc.tokens []).1.length = 0 by kernel_rfl, show ((([] : List Nat).length : Nat) : Int) = 0 from rfl]
  go_wp2_with (first | (refine wpList_buildP (a := none) (b := la) (n := 0) (m := 0) (c := 0) (d := lc) (k := 0) (by rfl) (.tmp 13) (by rfl) (by rfl) ?_) | (refine wpList_storeP (a := none) (b := la) (n := 0) (m := 0) (c := 0) (d := lc) (k := 0) (by rfl) (by rfl) (.tmp 5) (.tmp 14) (by rfl) (by rfl) (by rfl) (by rfl) ?_))
  obtain ⟨W6, hW6⟩ : ∃ W6, w5.alloc (.cells (par0 (.slice none 0 0) (.slice la 0 lc) 0).cells 52) = W6 := ⟨_, rfl⟩
  have HP6 : Hid (ParB W6 w5.heap.size (par0 (.slice none 0 0) (.slice la 0 lc) 0)) := hW6 ▸ heap_alloc_new w5 _
  have HX6 : Hid (Bx w.heap.size W6 (Value.slice none 0 0)) := hW6 ▸ HX5.out.below ((Below.refl _ _).alloc (Nat.le_refl _) _)
  have HB6 : Hid (Below w.heap.size w W6) := hW6 ▸ HB5.out.alloc HB5.out.size _
  have HZ6 : Hid (w5.heap.size + 1 ≤ W6.heap.size) := show w5.heap.size + 1 ≤ W6.heap.size by rw [← hW6]; simp
  rw [hW6]
  clear hW6
  refine (policy_nil (base := w5.heap.size + 1) HP6.out rfl ⟨rfl, .inl ⟨rfl, rfl⟩⟩ (by intro e; cases e) HZ6.out).mono ?_
  rintro e w7 ⟨rfl, par', hp7, e1, e2, hm7⟩
  have HX7 : Hid (Bx w.heap.size w7 (Value.slice none 0 0)) := HX6.out.mv hm7 HZ5.out
  have HB7 : Hid (Below w.heap.size w w7) := HB6.out.trans (hm7.keeps.below HB6.out.size (fun i _ hi => by have := HZ5.out; rcases hi with rfl | hi <;> omega))
  unfold stopE
  show bodyPostD _ _ _ (Exit.panic _) _ _
  refine leaves_cons (f := 10) (args := #[.pointer (some ⟨w.heap.size, 0, none⟩), .pointer (some ⟨w5.heap.size, 0, none⟩), .pointer (some ⟨w.heap.size + 1, 0, none⟩), .pointer (some ⟨w.heap.size + 1 + 1, 0, none⟩), .pointer (some ⟨w.heap.size + 1 + 1 + 1, 0, none⟩)]) (by simp) (by simp [go_sem]) ?_
  refine (catch_panicking (x := 0) HX7.out (sl_none w7) (by simp) hp7 e1 e2 HZ5.out).mono ?_
  rintro e u' w8 ⟨rfl, rfl, t1, ⟨c, hc, t2⟩, t3, hb8⟩
  obtain rfl : c = #[.int .i64 0, .int .i64 1, .int .i64 1] := by
    have : Sy.placeV [] (Sy.clampN 0 ([] : List Nat).length) = .agg #[.int .i64 0, .int .i64 1, .int .i64 1] := by kernel_rfl
    rw [this] at hc
    exact (Value.agg.inj hc).symm
  have l1 : (loadVar 28 ⟨w.heap.size + 1, 0, none⟩).run Tryz.prog w8 = .ok (.agg treeZ) w8 := run_loadVar_row _ _ _ _ _ _ _ t1 Tryz.underlying28 rfl (by kernel_rfl)
  have l2 : (loadVar 30 ⟨w.heap.size + 1 + 1, 0, none⟩).run Tryz.prog w8 = .ok (.agg #[.int .i64 0, .int .i64 1, .int .i64 1]) w8 := run_loadVar_row _ _ _ _ _ _ _ t2 Tryz.underlying30 rfl (by kernel_rfl)
  have l3 : (loadVar 31 ⟨w.heap.size + 1 + 1 + 1, 0, none⟩).run Tryz.prog w8 = .ok (.int .i64 60) w8 := by simp [go_sem, t3]
  exact ⟨_, results_cells3 (p1 := 2) (p2 := 3) (p3 := 4) rfl rfl rfl rfl l1 l2 l3, rfl, HB7.out.trans hb8⟩
end Go.Proofs.YtmkibolkcjallaaGreatDoor
