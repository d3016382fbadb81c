/- atom: an integer, a name; operator. Own work. -/
import Derived.Test.YtmkibolkcjallaaGreatDoorSyNd2
import Derived.Test.YtmkibolkcjallaaGreatDoorSpTake
import Derived.Shelf.Abstract
namespace Go.Proofs.YtmkibolkcjallaaGreatDoor
open Go.RowKit Go.Shelf Sc
theorem Ex.drew {w : World} {pb base b o cap g lc : Nat} {zs : List Nat} {ts : List Tok} {k : Nat} {par : Par} {ws : List ByteArray} {ns : List Nd} (h : Ex w pb base b o cap g lc zs ts k par ws ns) : Ex w.drew pb base b o cap g lc zs ts k par ws ns :=
  ⟨h.rt.of' (Keeps.refl _ _).drew h.rt.parB.drew rfl h.rt.list h.rt.done (h.rt.own.keeps (S := fun _ => False) (Keeps.refl _ _).drew (fun _ _ => id)), h.nd.keeps (S := fun _ => False) (Keeps.refl _ _).drew (fun _ _ => id)⟩
set_option maxRecDepth 100000 in
set_option maxHeartbeats 4000000 in
theorem atom_int {w : World} {pb base b o cap g lc : Nat} {zs : List Nat} {ts : List Tok} {k : Nat} {par : Par} {ws : List ByteArray} {ns : List Nd} (h : Ex w pb base b o cap g lc zs ts k par ws ns) (hk : k < ts.length) (hkd : ts[k].kind = 2) (ho : 0 ≤ par.open_ ∧ par.open_ ≤ 32) (hl : ns.length ≤ 1000) :
    Calls Tryz.prog 108 #[.pointer (some ⟨pb, 0, none⟩)] w fun e w' => e = .returned (.int .i64 (ns.length : Int)) ∧ ∃ v wv nv, Ex w' pb base b o cap g lc zs ts (k + 1) { (par.past ts[k] v wv) with items := nv } [] (ns ++ [⟨2, (ts[k].n : Int), ⟨#[]⟩, none, 0, 0, (ts[k].at_ : Int)⟩]) ∧ Me pb base w par w' { (par.past ts[k] v wv) with items := nv } := by
  have HC := Lib.hid (takesKind_yesE 2 h hk hkd (by omega) (by rw [hkd]; exact ho.2))
  clear h
  go_enter Tryz.func108, Tryz.ntmps108
  go_wp2_with fail
  refine HC.out.mono ?_
  rintro e w1 ⟨rfl, v1, u1, h1, m1⟩
  have H1 := Lib.hid h1
  have HM1 := Lib.hid m1
  have c5 := h1.rt.parB.cell 5 (v := .int .u64 (ts[k].n : Int)) rfl
  have c7 := h1.rt.parB.cell 7 (v := .int .i64 (ts[k].at_ : Int)) rfl
  clear h1 m1 HC
  go_wp2_with fail
  have HE : Hid (Enters Tryz.prog 100) := enters_of Tryz.func100 (by kernel_rfl) rfl
  have HCn : Hid (Calls Tryz.prog 100 #[.pointer (some ⟨pb, 0, none⟩), .agg #[.int .i64 2, .int .u64 (ts[k].n : Int), .string ⟨#[]⟩, .slice none 0 0, .int .i64 (ts[k].at_ : Int)]] w1.drew fun e w' => ∃ u, e = .returned u ∧ u = .int .i64 (ns.length : Int) ∧ ∃ nv, Ex w' pb base b o cap g lc zs ts (k + 1) { (par.past ts[k] v1 u1) with items := nv } [] (ns ++ [⟨2, (ts[k].n : Int), ⟨#[]⟩, none, 0, 0, (ts[k].at_ : Int)⟩]) ∧ Me pb base w par w' { (par.past ts[k] v1 u1) with items := nv }) := by
    refine (node_any ⟨2, (ts[k].n : Int), ⟨#[]⟩, none, 0, 0, (ts[k].at_ : Int)⟩ H1.out.drew hl).mono ?_
    rintro e w' ⟨rfl, nv, x, y⟩
    exact ⟨_, rfl, rfl, nv, x, HM1.out.drew.trans y⟩
  refine wp_region_held_drew (S := fun W' => W'.cell? ⟨pb, 5, none⟩ = some (.int .u64 (ts[k].n : Int)) ∧ W'.cell? ⟨pb, 7, none⟩ = some (.int .i64 (ts[k].at_ : Int))) (by kernel_rfl) ⟨c5, c7⟩ (fun hHeld => ?_)
  simp only [List.size_toArray, List.length_cons, List.length_nil]
  refine takeH (i := 0) (d := 9) (v := .pointer (some ⟨pb, 0, none⟩)) rfl rfl (by kernel_rfl) (by kernel_rfl) (by kernel_rfl) (fun _ _ _ h => h) (Or.inl ⟨by kernel_rfl, by intro w hSw; (try dsimp only at hSw); obtain ⟨s5, s7⟩ := hSw; go_simp⟩) (by assumption) ?_
  refine takeH (i := 1) (d := 10) (v := .pointer (some ⟨pb, 0, none⟩)) rfl rfl (by kernel_rfl) (by kernel_rfl) (by kernel_rfl) (fun _ _ _ h => h) (Or.inl ⟨by kernel_rfl, by intro w hSw; (try dsimp only at hSw); obtain ⟨s5, s7⟩ := hSw; go_simp⟩) (by assumption) ?_
  refine takeH (i := 2) (d := 11) (v := .pointer (some ⟨pb, 0, none⟩)) rfl rfl (by kernel_rfl) (by kernel_rfl) (by kernel_rfl) (fun _ _ _ h => h) (Or.inl ⟨by kernel_rfl, by intro w hSw; (try dsimp only at hSw); obtain ⟨s5, s7⟩ := hSw; go_simp⟩) (by assumption) ?_
  refine takeH (i := 3) (d := 12) (v := .pointer (some ⟨pb, 0, none⟩)) rfl rfl (by kernel_rfl) (by kernel_rfl) (by kernel_rfl) (fun _ _ _ h => h) (Or.inl ⟨by kernel_rfl, by intro w hSw; (try dsimp only at hSw); obtain ⟨s5, s7⟩ := hSw; go_simp⟩) (by assumption) ?_
  refine takeH (i := 4) (d := 13) (v := .pointer (some ⟨pb, 4, none⟩)) rfl rfl (by kernel_rfl) (by kernel_rfl) (by kernel_rfl) (fun _ _ _ h => h) (Or.inl ⟨by kernel_rfl, by intro w hSw; (try dsimp only at hSw); obtain ⟨s5, s7⟩ := hSw; go_simp⟩) (by assumption) ?_
  refine takeH (i := 5) (d := 14) (v := .pointer (some ⟨pb, 5, none⟩)) rfl rfl (by kernel_rfl) (by kernel_rfl) (by kernel_rfl) (fun _ _ _ h => h) (Or.inl ⟨by kernel_rfl, by intro w hSw; (try dsimp only at hSw); obtain ⟨s5, s7⟩ := hSw; go_simp⟩) (by assumption) ?_
  refine takeH (i := 6) (d := 15) (v := .int .u64 (ts[k].n : Int)) rfl rfl (by kernel_rfl) (by kernel_rfl) (by kernel_rfl) (fun _ _ _ h => h) (Or.inl ⟨by kernel_rfl, by intro w hSw; (try dsimp only at hSw); obtain ⟨s5, s7⟩ := hSw; go_simp⟩) (by assumption) ?_
  refine takeH (i := 7) (d := 16) (v := .pointer (some ⟨pb, 0, none⟩)) rfl rfl (by kernel_rfl) (by kernel_rfl) (by kernel_rfl) (fun _ _ _ h => h) (Or.inl ⟨by kernel_rfl, by intro w hSw; (try dsimp only at hSw); obtain ⟨s5, s7⟩ := hSw; go_simp⟩) (by assumption) ?_
  refine takeH (i := 8) (d := 17) (v := .pointer (some ⟨pb, 0, none⟩)) rfl rfl (by kernel_rfl) (by kernel_rfl) (by kernel_rfl) (fun _ _ _ h => h) (Or.inl ⟨by kernel_rfl, by intro w hSw; (try dsimp only at hSw); obtain ⟨s5, s7⟩ := hSw; go_simp⟩) (by assumption) ?_
  refine takeH (i := 9) (d := 18) (v := .pointer (some ⟨pb, 0, none⟩)) rfl rfl (by kernel_rfl) (by kernel_rfl) (by kernel_rfl) (fun _ _ _ h => h) (Or.inl ⟨by kernel_rfl, by intro w hSw; (try dsimp only at hSw); obtain ⟨s5, s7⟩ := hSw; go_simp⟩) (by assumption) ?_
  refine takeH (i := 10) (d := 19) (v := .pointer (some ⟨pb, 4, none⟩)) rfl rfl (by kernel_rfl) (by kernel_rfl) (by kernel_rfl) (fun _ _ _ h => h) (Or.inl ⟨by kernel_rfl, by intro w hSw; (try dsimp only at hSw); obtain ⟨s5, s7⟩ := hSw; go_simp⟩) (by assumption) ?_
  refine takeH (i := 11) (d := 20) (v := .pointer (some ⟨pb, 7, none⟩)) rfl rfl (by kernel_rfl) (by kernel_rfl) (by kernel_rfl) (fun _ _ _ h => h) (Or.inl ⟨by kernel_rfl, by intro w hSw; (try dsimp only at hSw); obtain ⟨s5, s7⟩ := hSw; go_simp⟩) (by assumption) ?_
  refine takeH (i := 12) (d := 21) (v := .int .i64 (ts[k].at_ : Int)) rfl rfl (by kernel_rfl) (by kernel_rfl) (by kernel_rfl) (fun _ _ _ h => h) (Or.inl ⟨by kernel_rfl, by intro w hSw; (try dsimp only at hSw); obtain ⟨s5, s7⟩ := hSw; go_simp⟩) (by assumption) ?_
  refine takeH (i := 13) (d := 22) (v := .agg #[.int .i64 2, .int .u64 (ts[k].n : Int), .string ⟨#[]⟩, .slice none 0 0, .int .i64 (ts[k].at_ : Int)]) rfl rfl (by kernel_rfl) (by kernel_rfl) (by kernel_rfl) (fun _ _ _ h => h) (Or.inl ⟨by kernel_rfl, by intro w hSw; (try dsimp only at hSw); obtain ⟨s5, s7⟩ := hSw; go_simp⟩) (by assumption) ?_
  refine wpAnyH_ready (rs := [14]) (by kernel_rfl) (by simp) ?_
  refine readyCall (i := 14) (d := 23) rfl rfl (by kernel_rfl) 100 #[.tmp 9, .tmp 22] #[57, 37] rfl HE.out #[.pointer (some ⟨pb, 0, none⟩), .agg #[.int .i64 2, .int .u64 (ts[k].n : Int), .string ⟨#[]⟩, .slice none 0 0, .int .i64 (ts[k].at_ : Int)]] (by simp [Act.eval, Act.put]) HCn.out (fun u w' ⟨_, nv, x, _⟩ => ⟨x.rt.parB.cell 5 rfl, x.rt.parB.cell 7 rfl⟩) ?_ AllReadyH.nil
  rintro u w2 ⟨rfl, nv2, h2, m2⟩ hHeld2
  refine takeH (i := 15) (d := 2) (v := .int .i64 (ns.length : Int)) rfl rfl (by kernel_rfl) (by kernel_rfl) (by kernel_rfl) (fun _ _ _ h => h) (Or.inl ⟨by kernel_rfl, by intro w hSw; (try dsimp only at hSw); obtain ⟨s5, s7⟩ := hSw; go_simp⟩) (by assumption) ?_
  refine wpAnyH_done (by kernel_rfl) ?_ _
  simp only [Act.put, List.setIfInBounds_toArray, List.set_cons_succ, List.set_cons_zero]
  go_wp2_with fail
  go_ret
  exact ⟨rfl, _, _, nv2, h2, m2⟩
set_option maxRecDepth 100000 in
set_option maxHeartbeats 4000000 in
theorem atom_name {w : World} {pb base b o cap g lc : Nat} {zs : List Nat} {ts : List Tok} {k : Nat} {par : Par} {ws : List ByteArray} {ns : List Nd} (h : Ex w pb base b o cap g lc zs ts k par ws ns) (hk : k < ts.length) (hkd : ts[k].kind = 1) (ho : 0 ≤ par.open_ ∧ par.open_ ≤ 32) (hl : ns.length ≤ 1000) :
    Calls Tryz.prog 108 #[.pointer (some ⟨pb, 0, none⟩)] w fun e w' => e = .returned (.int .i64 (ns.length : Int)) ∧ ∃ v wv nv, Ex w' pb base b o cap g lc zs ts (k + 1) { (par.past ts[k] v wv) with items := nv } [] (ns ++ [⟨1, 0, mkS ts[k].s, none, 0, 0, (ts[k].at_ : Int)⟩]) ∧ Me pb base w par w' { (par.past ts[k] v wv) with items := nv } := by
  have HC := Lib.hid (takesKind_noE 2 h hk (by rw [hkd]; decide))
  have HC2 : Hid (∀ w1, Ex w1 pb base b o cap g lc zs ts k { par with naming := par.naming || ((2 : Int) == 1) } ws ns → Calls Tryz.prog 29 #[.pointer (some ⟨pb, 0, none⟩), .int .i64 1] w1 fun e w' => e = .returned (.bool true) ∧ ∃ v wv, Ex w' pb base b o cap g lc zs ts (k + 1) (par.past ts[k] v wv) [] ns ∧ Me pb base w1 { par with naming := par.naming || ((2 : Int) == 1) } w' (par.past ts[k] v wv)) := fun w1 h1 => takesKind_yesE 1 h1 hk hkd ⟨ho.1, by show par.open_ ≤ 1000; omega⟩ (by rw [hkd]; exact ho.2)
  clear h
  go_enter Tryz.func108, Tryz.ntmps108
  go_wp2_with fail
  refine HC.out.mono ?_
  rintro e w0 ⟨rfl, h0, m0⟩
  have H0 := Lib.hid h0
  have HM0 := Lib.hid m0
  clear h0 m0 HC
  go_wp2_with fail
  refine (HC2.out _ H0.out).mono ?_
  rintro e w1 ⟨rfl, v1, u1, h1, m1⟩
  have H1 := Lib.hid h1
  have HM1 : Hid (Me pb base w par w1 (par.past ts[k] v1 u1)) := HM0.out.trans m1
  have c6 := h1.rt.parB.cell 6 (v := .string (mkS ts[k].s)) rfl
  have c7 := h1.rt.parB.cell 7 (v := .int .i64 (ts[k].at_ : Int)) rfl
  clear h1 m1 HC2 H0 HM0
  go_wp2_with fail
  have HE : Hid (Enters Tryz.prog 100) := enters_of Tryz.func100 (by kernel_rfl) rfl
  have HCn : Hid (Calls Tryz.prog 100 #[.pointer (some ⟨pb, 0, none⟩), .agg #[.int .i64 1, .int .u64 0, .string (mkS ts[k].s), .slice none 0 0, .int .i64 (ts[k].at_ : Int)]] w1.drew fun e w' => ∃ u, e = .returned u ∧ u = .int .i64 (ns.length : Int) ∧ ∃ nv, Ex w' pb base b o cap g lc zs ts (k + 1) { (par.past ts[k] v1 u1) with items := nv } [] (ns ++ [⟨1, 0, mkS ts[k].s, none, 0, 0, (ts[k].at_ : Int)⟩]) ∧ Me pb base w par w' { (par.past ts[k] v1 u1) with items := nv }) := by
    refine (node_any ⟨1, 0, mkS ts[k].s, none, 0, 0, (ts[k].at_ : Int)⟩ H1.out.drew hl).mono ?_
    rintro e w' ⟨rfl, nv, x, y⟩
    exact ⟨_, rfl, rfl, nv, x, HM1.out.drew.trans y⟩
  refine wp_region_held_drew (S := fun W' => W'.cell? ⟨pb, 6, none⟩ = some (.string (mkS ts[k].s)) ∧ W'.cell? ⟨pb, 7, none⟩ = some (.int .i64 (ts[k].at_ : Int))) (by kernel_rfl) ⟨c6, c7⟩ (fun hHeld => ?_)
  simp only [List.size_toArray, List.length_cons, List.length_nil]
  refine takeH (i := 0) (d := 29) (v := .pointer (some ⟨pb, 0, none⟩)) rfl rfl (by kernel_rfl) (by kernel_rfl) (by kernel_rfl) (fun _ _ _ h => h) (Or.inl ⟨by kernel_rfl, by intro w hSw; (try dsimp only at hSw); obtain ⟨s6, s7⟩ := hSw; go_simp⟩) (by assumption) ?_
  refine takeH (i := 1) (d := 30) (v := .pointer (some ⟨pb, 0, none⟩)) rfl rfl (by kernel_rfl) (by kernel_rfl) (by kernel_rfl) (fun _ _ _ h => h) (Or.inl ⟨by kernel_rfl, by intro w hSw; (try dsimp only at hSw); obtain ⟨s6, s7⟩ := hSw; go_simp⟩) (by assumption) ?_
  refine takeH (i := 2) (d := 31) (v := .pointer (some ⟨pb, 0, none⟩)) rfl rfl (by kernel_rfl) (by kernel_rfl) (by kernel_rfl) (fun _ _ _ h => h) (Or.inl ⟨by kernel_rfl, by intro w hSw; (try dsimp only at hSw); obtain ⟨s6, s7⟩ := hSw; go_simp⟩) (by assumption) ?_
  refine takeH (i := 3) (d := 32) (v := .pointer (some ⟨pb, 0, none⟩)) rfl rfl (by kernel_rfl) (by kernel_rfl) (by kernel_rfl) (fun _ _ _ h => h) (Or.inl ⟨by kernel_rfl, by intro w hSw; (try dsimp only at hSw); obtain ⟨s6, s7⟩ := hSw; go_simp⟩) (by assumption) ?_
  refine takeH (i := 4) (d := 33) (v := .pointer (some ⟨pb, 4, none⟩)) rfl rfl (by kernel_rfl) (by kernel_rfl) (by kernel_rfl) (fun _ _ _ h => h) (Or.inl ⟨by kernel_rfl, by intro w hSw; (try dsimp only at hSw); obtain ⟨s6, s7⟩ := hSw; go_simp⟩) (by assumption) ?_
  refine takeH (i := 5) (d := 34) (v := .pointer (some ⟨pb, 6, none⟩)) rfl rfl (by kernel_rfl) (by kernel_rfl) (by kernel_rfl) (fun _ _ _ h => h) (Or.inl ⟨by kernel_rfl, by intro w hSw; (try dsimp only at hSw); obtain ⟨s6, s7⟩ := hSw; go_simp⟩) (by assumption) ?_
  refine takeH (i := 6) (d := 35) (v := .string (mkS ts[k].s)) rfl rfl (by kernel_rfl) (by kernel_rfl) (by kernel_rfl) (fun _ _ _ h => h) (Or.inl ⟨by kernel_rfl, by intro w hSw; (try dsimp only at hSw); obtain ⟨s6, s7⟩ := hSw; go_simp⟩) (by assumption) ?_
  refine takeH (i := 7) (d := 36) (v := .pointer (some ⟨pb, 0, none⟩)) rfl rfl (by kernel_rfl) (by kernel_rfl) (by kernel_rfl) (fun _ _ _ h => h) (Or.inl ⟨by kernel_rfl, by intro w hSw; (try dsimp only at hSw); obtain ⟨s6, s7⟩ := hSw; go_simp⟩) (by assumption) ?_
  refine takeH (i := 8) (d := 37) (v := .pointer (some ⟨pb, 0, none⟩)) rfl rfl (by kernel_rfl) (by kernel_rfl) (by kernel_rfl) (fun _ _ _ h => h) (Or.inl ⟨by kernel_rfl, by intro w hSw; (try dsimp only at hSw); obtain ⟨s6, s7⟩ := hSw; go_simp⟩) (by assumption) ?_
  refine takeH (i := 9) (d := 38) (v := .pointer (some ⟨pb, 0, none⟩)) rfl rfl (by kernel_rfl) (by kernel_rfl) (by kernel_rfl) (fun _ _ _ h => h) (Or.inl ⟨by kernel_rfl, by intro w hSw; (try dsimp only at hSw); obtain ⟨s6, s7⟩ := hSw; go_simp⟩) (by assumption) ?_
  refine takeH (i := 10) (d := 39) (v := .pointer (some ⟨pb, 4, none⟩)) rfl rfl (by kernel_rfl) (by kernel_rfl) (by kernel_rfl) (fun _ _ _ h => h) (Or.inl ⟨by kernel_rfl, by intro w hSw; (try dsimp only at hSw); obtain ⟨s6, s7⟩ := hSw; go_simp⟩) (by assumption) ?_
  refine takeH (i := 11) (d := 40) (v := .pointer (some ⟨pb, 7, none⟩)) rfl rfl (by kernel_rfl) (by kernel_rfl) (by kernel_rfl) (fun _ _ _ h => h) (Or.inl ⟨by kernel_rfl, by intro w hSw; (try dsimp only at hSw); obtain ⟨s6, s7⟩ := hSw; go_simp⟩) (by assumption) ?_
  refine takeH (i := 12) (d := 41) (v := .int .i64 (ts[k].at_ : Int)) rfl rfl (by kernel_rfl) (by kernel_rfl) (by kernel_rfl) (fun _ _ _ h => h) (Or.inl ⟨by kernel_rfl, by intro w hSw; (try dsimp only at hSw); obtain ⟨s6, s7⟩ := hSw; go_simp⟩) (by assumption) ?_
  refine takeH (i := 13) (d := 42) (v := .agg #[.int .i64 1, .int .u64 0, .string (mkS ts[k].s), .slice none 0 0, .int .i64 (ts[k].at_ : Int)]) rfl rfl (by kernel_rfl) (by kernel_rfl) (by kernel_rfl) (fun _ _ _ h => h) (Or.inl ⟨by kernel_rfl, by intro w hSw; (try dsimp only at hSw); obtain ⟨s6, s7⟩ := hSw; go_simp⟩) (by assumption) ?_
  refine wpAnyH_ready (rs := [14]) (by kernel_rfl) (by simp) ?_
  refine readyCall (i := 14) (d := 43) rfl rfl (by kernel_rfl) 100 #[.tmp 29, .tmp 42] #[57, 37] rfl HE.out #[.pointer (some ⟨pb, 0, none⟩), .agg #[.int .i64 1, .int .u64 0, .string (mkS ts[k].s), .slice none 0 0, .int .i64 (ts[k].at_ : Int)]] (by simp [Act.eval, Act.put]) HCn.out (fun u w' ⟨_, nv, x, _⟩ => ⟨x.rt.parB.cell 6 rfl, x.rt.parB.cell 7 rfl⟩) ?_ AllReadyH.nil
  rintro u w2 ⟨rfl, nv2, h2, m2⟩ hHeld2
  refine takeH (i := 15) (d := 2) (v := .int .i64 (ns.length : Int)) rfl rfl (by kernel_rfl) (by kernel_rfl) (by kernel_rfl) (fun _ _ _ h => h) (Or.inl ⟨by kernel_rfl, by intro w hSw; (try dsimp only at hSw); obtain ⟨s6, s7⟩ := hSw; go_simp⟩) (by assumption) ?_
  refine wpAnyH_done (by kernel_rfl) ?_ _
  simp only [Act.put, List.setIfInBounds_toArray, List.set_cons_succ, List.set_cons_zero]
  go_wp2_with fail
  go_ret
  exact ⟨rfl, _, _, nv2, h2, m2⟩
/-- two numbers in a block of their own, apart from what the parser writes -/
structure Kd (w : World) (pb : Nat) (par : Par) (kb : Nat) (x y : Int) : Prop where
  c0 : w.cell? ⟨kb, 0, none⟩ = some (.int .i64 x)
  c1 : w.cell? ⟨kb, 1, none⟩ = some (.int .i64 y)
  pb_ : kb ≠ pb
  words : par.words.ownBlock ≠ some kb
  items : par.items.ownBlock ≠ some kb
  lt : kb < w.heap.size
theorem Kd.me {w w' : World} {pb base : Nat} {par par' : Par} {kb : Nat} {x y : Int} (h : Kd w pb par kb x y) (m : Me pb base w par w' par') : Kd w' pb par' kb x y :=
  ⟨m.cell h.c0 h.pb_ h.words h.items, m.cell h.c1 h.pb_ h.words h.items, h.pb_, (m.stay kb h.lt h.pb_ h.words h.items).2.1, (m.stay kb h.lt h.pb_ h.words h.items).2.2, Nat.lt_of_lt_of_le h.lt m.keeps.size⟩
theorem Ex.alloc {w : World} {pb base b o cap g lc : Nat} {zs : List Nat} {ts : List Tok} {k : Nat} {par : Par} {ws : List ByteArray} {ns : List Nd} (h : Ex w pb base b o cap g lc zs ts k par ws ns) (X : Obj) : Ex (w.alloc X) pb base b o cap g lc zs ts k par ws ns := by
  have hk : Keeps (fun _ => False) w (w.alloc X) := Keeps.alloc w X
  exact ⟨h.rt.of' (Keeps.alloc w X) (h.rt.parB.keeps hk id) rfl h.rt.list h.rt.done (h.rt.own.keeps hk (fun _ _ => id)), h.nd.keeps hk (fun _ _ => id)⟩
set_option maxRecDepth 100000 in
set_option maxHeartbeats 4000000 in
theorem operator_any {w : World} {pb base b o cap g lc : Nat} {zs : List Nat} {ts : List Tok} {k : Nat} {par : Par} {ws : List ByteArray} {ns : List Nd} {kd tn ta te : Int} {s : ByteArray} {x y : Int} (h : Ex w pb base b o cap g lc zs ts k par ws ns) (hl : ns.length ≤ 1000) :
    Calls Tryz.prog 95 #[.pointer (some ⟨pb, 0, none⟩), .agg #[.int .i64 kd, .int .u64 tn, .string s, .int .i64 ta, .int .i64 te], .int .i64 x, .int .i64 y] w fun e w' => e = .returned (.int .i64 (ns.length : Int)) ∧ ∃ kb nv, Ex w' pb base b o cap g lc zs ts k { par with items := nv } ws (ns ++ [⟨kd, 0, ⟨#[]⟩, some ⟨kb, 0, none⟩, 2, 2, ta⟩]) ∧ Me pb base w par w' { par with items := nv } ∧ Kd w' pb { par with items := nv } kb x y := by
  have HX := Lib.hid h
  clear h
  go_enter Tryz.func95, Tryz.ntmps95
  go_wp2_with fail
  have hw := fun i (e : par.words.ownBlock = some i) => HX.out.rt.own.lt i e
  have hi := fun i (e : par.items.ownBlock = some i) => HX.out.nd.lt i e
  have hlo := HX.out.rt.low
  have hto := HX.out.rt.top
  have H2 : Hid (Ex ((w.alloc (Obj.cells #[.int .i64 kd, .int .u64 tn, .string s, .int .i64 ta, .int .i64 te] 46)).alloc (Obj.cells #[.int .i64 x, .int .i64 y] 3)) pb base b o cap g lc zs ts k par ws ns) := (HX.out.alloc _).alloc _
  have HM2 : Hid (Me pb base w par ((w.alloc (Obj.cells #[.int .i64 kd, .int .u64 tn, .string s, .int .i64 ta, .int .i64 te] 46)).alloc (Obj.cells #[.int .i64 x, .int .i64 y] 3)) par) := ((Me.refl _ _ _ _).alloc _).alloc _
  have HK2 : Hid (Kd ((w.alloc (Obj.cells #[.int .i64 kd, .int .u64 tn, .string s, .int .i64 ta, .int .i64 te] 46)).alloc (Obj.cells #[.int .i64 x, .int .i64 y] 3)) pb par (w.heap.size + 1) x y) :=
    ⟨by rw [cell_of_row _ _ 0 _ _ _ (alloc2_1 w _ _)]; rfl, by rw [cell_of_row _ _ 1 _ _ _ (alloc2_1 w _ _)]; rfl, by omega, fun e => by have := hw _ e; omega, fun e => by have := hi _ e; omega, by simp⟩
  refine (node_any ⟨kd, 0, ⟨#[]⟩, some ⟨w.heap.size + 1, 0, none⟩, 2, 2, ta⟩ H2.out hl).mono ?_
  rintro e w3 ⟨rfl, nv, x3, y3⟩
  have H3 := Lib.hid x3
  have HM3 := Lib.hid y3
  clear x3 y3 hw hi hlo hto
  go_wp2_with fail
  go_ret
  exact ⟨rfl, _, nv, H3.out, HM2.out.trans HM3.out, HK2.out.me HM3.out⟩
end Go.Proofs.YtmkibolkcjallaaGreatDoor
