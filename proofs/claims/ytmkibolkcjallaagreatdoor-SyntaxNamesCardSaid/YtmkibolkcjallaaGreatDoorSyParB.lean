/- Parse of a text that is refused. Own work. -/
import Derived.Test.YtmkibolkcjallaaGreatDoorSyCatch
namespace Go.Proofs.YtmkibolkcjallaaGreatDoor
open Go.RowKit Sc
set_option maxRecDepth 100000 in
set_option maxHeartbeats 4000000 in
theorem parse_B {w : World} {b o cap : Nat} (ht : Tabs w) (hs : Sl w (.slice (some ⟨b, o, none⟩) 14 cap) zsB) (hcap : 14 ≤ cap) (hb : b < w.heap.size) (h9 : 4 ≤ w.heap.size) :
    Calls Tryz.prog 5 #[.slice (some ⟨b, o, none⟩) 14 cap] w fun e w' => e = .returned (.tuple #[.agg treeZ, .agg #[.int .i64 13, .int .i64 2, .int .i64 13], .int .i64 60]) ∧ Below w.heap.size w w' := by
  have hmf : ∀ (fn : Fn) (first cap : Array Value) (w : World), (Instr.makeFunc fn first cap).run Tryz.prog w = .ok (.func fn first cap) w := fun _ _ _ _ => rfl
  go_enter_defers Tryz.func5, Tryz.ntmps5
  go_wp2_with fail
  have HX4 := Lib.hid (Bx.start w (Value.slice (some ⟨b, o, none⟩) 14 cap))
  obtain ⟨W4, hW4⟩ : ∃ W4, (((w.alloc (Obj.cells #[Value.slice (some ⟨b, o, none⟩) 14 cap] 34)).alloc (Obj.cells #[Value.int IntKind.i64 0, Value.string ⟨#[]⟩, Value.int IntKind.i64 0, Value.slice none 0 0, Value.slice none 0 0, Value.slice none 0 0, Value.slice none 0 0] 28)).alloc (Obj.cells #[Value.int IntKind.i64 0, Value.int IntKind.i64 0, Value.int IntKind.i64 0] 30)).alloc (Obj.cells #[Value.int IntKind.i64 0] 31) = W4 := ⟨_, rfl⟩
  have HB4 : Hid (Below w.heap.size w W4) := hW4 ▸ ((((Below.refl _ _).alloc (Nat.le_refl _) _).alloc (by simp) _).alloc (by simp; omega) _).alloc (by simp; omega) _
  have HZ4 : Hid (W4.heap.size = w.heap.size + 4) := show W4.heap.size = w.heap.size + 4 by rw [← hW4]; simp
  rw [hW4] at HX4 ⊢
  refine (ahead_ok (ht.below HB4.out) (hs.below HB4.out) (fun k hk => by cases hk; exact Nat.lt_of_lt_of_le hb HB4.out.size) (Nat.le_trans h9 HB4.out.size) (by rw [tokens_B])).mono ?_
  rintro e w5 ⟨lv, rfl, hT5, hb5⟩
  rw [tokens_B] at hT5
  obtain ⟨ga, lc, rfl, hlc, hga, htk⟩ := tkc_of hT5 (by decide)
  have HTk := Lib.hid htk
  have HB5 : Hid (Below w.heap.size w w5) := HB4.out.trans (hb5.mono HB4.out.size)
  have HX5 : Hid (Bx w.heap.size w5 (Value.slice (some ⟨b, o, none⟩) 14 cap)) := HX4.out.below hb5
  have HSl5 : Hid (Sl w5 (.slice (some ⟨b, o, none⟩) 14 cap) zsB) := hs.below HB5.out
  have HZ5 : Hid (w.heap.size + 4 ≤ w5.heap.size) := HZ4.out ▸ hb5.size
  have HLc : Hid (tsB.length ≤ lc) := hlc
  clear hT5 hb5 hW4 htk HX4 HB4 hlc hs ht
  rw [show tsB.length = 4 from rfl, show ((zsB.length : Nat) : Int) = 14 from rfl]
  go_wp2_with (first | (refine wpList_buildP (a := some ⟨b, o, none⟩) (b := some ⟨ga, 0, none⟩) (n := 14) (m := 4) (c := cap) (d := lc) (k := 14) (by rfl) (.tmp 13) (by rfl) (by rfl) ?_) | (refine wpList_storeP (a := some ⟨b, o, none⟩) (b := some ⟨ga, 0, none⟩) (n := 14) (m := 4) (c := cap) (d := lc) (k := 14) (by rfl) (by rfl) (.tmp 5) (.tmp 14) (by rfl) (by rfl) (by rfl) (by rfl) ?_))
  have HR6 : Hid (Rt (w5.alloc (.cells (par0 (.slice (some ⟨b, o, none⟩) 14 cap) (.slice (some ⟨ga, 0, none⟩) 4 lc) 14).cells 52)) w5.heap.size (w5.heap.size + 1) b o cap ga lc zsB tsB 0 (par0 (.slice (some ⟨b, o, none⟩) 14 cap) (.slice (some ⟨ga, 0, none⟩) 4 lc) 14) []) := Rt.start (zs := zsB) HSl5.out hcap HTk.out (by decide) HLc.out (Nat.lt_of_lt_of_le hb HB5.out.size)
  have HX6 : Hid (Bx w.heap.size (w5.alloc (.cells (par0 (.slice (some ⟨b, o, none⟩) 14 cap) (.slice (some ⟨ga, 0, none⟩) 4 lc) 14).cells 52)) (Value.slice (some ⟨b, o, none⟩) 14 cap)) := HX5.out.below ((Below.refl _ _).alloc (Nat.le_refl _) _)
  have HB6 : Hid (Below w.heap.size w (w5.alloc (.cells (par0 (.slice (some ⟨b, o, none⟩) 14 cap) (.slice (some ⟨ga, 0, none⟩) 4 lc) 14).cells 52))) := HB5.out.alloc HB5.out.size _
  refine (policy_bad HR6.out rfl rfl rfl).mono ?_
  rintro e w7 ⟨rfl, par', hp7, e1, e2, hm7⟩
  have HX7 : Hid (Bx w.heap.size w7 (Value.slice (some ⟨b, o, none⟩) 14 cap)) := HX6.out.mv hm7 HZ5.out
  have HB7 : Hid (Below w.heap.size w w7) := HB6.out.trans (hm7.keeps.below HB6.out.size (fun i _ hi => by have := HZ5.out; rcases hi with rfl | hi <;> omega))
  have HS7 : Hid (Sl w7 (.slice (some ⟨b, o, none⟩) 14 cap) zsB) := HR6.out.sl.keeps hm7.keeps (fun k hk => by have hk' : b = k := Option.some.inj hk; subst hk'; have := HB5.out.size; rintro (e | e) <;> omega)
  unfold stopE
  show bodyPostD _ _ _ (Exit.panic _) _ _
  refine leaves_cons (f := 10) (args := #[.pointer (some ⟨w.heap.size, 0, none⟩), .pointer (some ⟨w5.heap.size, 0, none⟩), .pointer (some ⟨w.heap.size + 1, 0, none⟩), .pointer (some ⟨w.heap.size + 1 + 1, 0, none⟩), .pointer (some ⟨w.heap.size + 1 + 1 + 1, 0, none⟩)]) (by simp) (by simp [go_sem]) ?_
  refine (catch_panicking HX7.out HS7.out (by decide) hp7 e1 e2 HZ5.out).mono ?_
  rintro e u' w8 ⟨rfl, rfl, t1, ⟨c, hc, t2⟩, t3, hb8⟩
  obtain rfl : c = #[.int .i64 13, .int .i64 2, .int .i64 13] := by
    have : Sy.placeV zsB (Sy.clampN 13 zsB.length) = .agg #[.int .i64 13, .int .i64 2, .int .i64 13] := by kernel_rfl
    rw [this] at hc
    exact (Value.agg.inj hc).symm
  have l1 : (loadVar 28 ⟨w.heap.size + 1, 0, none⟩).run Tryz.prog w8 = .ok (.agg treeZ) w8 := run_loadVar_row _ _ _ _ _ _ _ t1 Tryz.underlying28 rfl (by kernel_rfl)
  have l2 : (loadVar 30 ⟨w.heap.size + 1 + 1, 0, none⟩).run Tryz.prog w8 = .ok (.agg #[.int .i64 13, .int .i64 2, .int .i64 13]) w8 := run_loadVar_row _ _ _ _ _ _ _ t2 Tryz.underlying30 rfl (by kernel_rfl)
  have l3 : (loadVar 31 ⟨w.heap.size + 1 + 1 + 1, 0, none⟩).run Tryz.prog w8 = .ok (.int .i64 60) w8 := by simp [go_sem, t3]
  exact ⟨_, results_cells3 (p1 := 2) (p2 := 3) (p3 := 4) rfl rfl rfl rfl l1 l2 l3, rfl, HB7.out.trans hb8⟩
end Go.Proofs.YtmkibolkcjallaaGreatDoor
