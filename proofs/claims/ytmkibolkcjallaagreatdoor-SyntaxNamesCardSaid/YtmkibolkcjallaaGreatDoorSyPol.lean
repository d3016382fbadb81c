/- policy, of the two texts of known(). Own work. -/
import Derived.Test.YtmkibolkcjallaaGreatDoorSyBlk
namespace Go.Proofs.YtmkibolkcjallaaGreatDoor
open Go.RowKit Sc
theorem Mv.set {pb base : Nat} {a w : World} (h : Mv pb base a w) (i : Nat) (v : Value) : Mv pb base a (w.setCell ⟨pb, i, none⟩ v) :=
  h.trans ⟨(Keeps.setCell w pb i v).mono (fun _ _ => .inl), fun _ _ _ _ hk _ hh => (Below.heap_setCell _ _ _ _ hk).trans hh⟩
theorem ParB.put {w : World} {pb i : Nat} {par par' : Par} {v : Value} (h : ParB w pb par) (e : par'.cells = par.cells.setIfInBounds i v) : ParB (w.setCell ⟨pb, i, none⟩ v) pb par' := by
  have h' : w.heap[pb]? = _ := h
  unfold ParB
  rw [e]
  simp [World.setCell, Array.getElem?_modify, h']
set_option maxRecDepth 100000 in
set_option maxHeartbeats 2000000 in
theorem ends_ok {w : World} {pb lc : Nat} {par : Par} {la : Option Addr} (hp : ParB w pb par) (hl : par.list = .slice la 0 lc) (hw : par.whole = true) :
    Calls Tryz.prog 19 #[.pointer (some ⟨pb, 0, none⟩)] w fun e w' => e = .returned (.tuple #[]) ∧ w' = w := by
  have d1 := hp.cell 1 (v := par.list) rfl
  have d3 := hp.cell 3 (v := .bool par.whole) rfl
  rw [hl] at d1
  rw [hw] at d3
  clear hp hl hw
  go_enter Tryz.func19, Tryz.ntmps19
  go_wp2_with fail
  go_end0
  exact ⟨rfl, rfl⟩
/-- the two texts of known() -/
def zsA : List Nat := [115, 121, 115, 116, 101, 109, 32, 115, 32, 123, 32, 125]
def tsA : List Tok := [⟨30, 0, [], 0, 6⟩, ⟨1, 0, [115], 7, 8⟩, ⟨4, 0, [], 9, 10⟩, ⟨5, 0, [], 11, 12⟩]
def zsB : List Nat := [10, 115, 121, 115, 116, 101, 109, 32, 115, 32, 123, 32, 114, 120]
def tsB : List Tok := [⟨30, 0, [], 1, 7⟩, ⟨1, 0, [115], 8, 9⟩, ⟨4, 0, [], 10, 11⟩, ⟨1, 0, [114, 120], 12, 14⟩]
theorem tokens_A : Sc.tokens zsA = (tsA, 0, 0) := by kernel_rfl
theorem tokens_B : Sc.tokens zsB = (tsB, 0, 0) := by kernel_rfl
/-- the tree's cells -/
def Par.treed (par : Par) (x : Int) (s : ByteArray) (a : Int) (v t : Value) : Par := { par with pos := x, word := s, wat := a, index := v, nodes := t }
theorem Rt.put {w : World} {pb base b o cap g lc i : Nat} {zs : List Nat} {ts : List Tok} {k : Nat} {par par' : Par} {v : Value} {ws : List ByteArray} (h : Rt w pb base b o cap g lc zs ts k par ws) (e : par'.cells = par.cells.setIfInBounds i v) (e1 : par'.src = par.src) (e2 : par'.list = par.list) (e3 : par'.words = par.words) : Rt (w.setCell ⟨pb, i, none⟩ v) pb base b o cap g lc zs ts k par' ws := by
  refine h.of ((Mv.refl _ _ _).set i v) (h.parB.put e) e1 (fun hk => e2.trans (h.list hk)) (fun hd => by rw [e2]; exact h.done hd) ?_
  rw [e3]
  exact h.own.keeps (Keeps.setCell w pb i v) (fun j hj ej => by have := h.own.lt j hj; have := h.low; omega)
set_option maxRecDepth 100000 in
set_option maxHeartbeats 4000000 in
theorem policy_ok {w : World} {pb base b o cap g lc : Nat} {par : Par} (h : Rt w pb base b o cap g lc zsA tsA 0 par []) (ho : par.open_ = 0) (hw : par.whole = true) (h0 : par.index = .slice none 0 0) (h3 : par.nodes = .slice none 0 0) :
    Calls Tryz.prog 11 #[.pointer (some ⟨pb, 0, none⟩)] w fun e w' => e = .returned (.tuple #[]) ∧ ∃ par', ParB w' pb par' ∧ par'.pos = 0 ∧ par'.word = ⟨#[115]⟩ ∧ par'.wat = 7 ∧ par'.index = .slice none 0 0 ∧ par'.top = par.top ∧ par'.items = par.items ∧ par'.nodes = .slice none 0 0 ∧ Mv pb base w w' := by
  have HN := Lib.hid (needs_yes ⟨#[115, 121, 115, 116, 101, 109]⟩ h (by decide) (by decide) (by decide) (by kernel_rfl) (by omega) (by rw [ho]; decide) (by simp))
  have HOp : Hid (par.open_ = 0) := ho
  have HWh : Hid (par.whole = true) := hw
  clear h ho hw
  go_enter Tryz.func11, Tryz.ntmps11
  go_wp2_with fail
  refine HN.out.mono ?_
  rintro e w1 ⟨rfl, v1, u1, h1, hm1⟩
  have H1 := Lib.hid h1
  have HM1 := Lib.hid hm1
  have d7 := h1.parB.cell 7 (v := .int .i64 0) rfl
  have d14 := h1.parB.cell 14 (v := .int .i64 par.pos) rfl
  have z14 := h1.parB.thawed 14
  clear h1 hm1 HN
  go_wp2_with fail
  have H2 : Hid (Rt (w1.setCell ⟨pb, 14, none⟩ (.int .i64 0)) pb base b o cap g lc zsA tsA 1 { (par.past tsA[0] v1 u1) with pos := 0 } []) := H1.out.put rfl rfl rfl rfl
  have HM2 : Hid (Mv pb base w (w1.setCell ⟨pb, 14, none⟩ (.int .i64 0))) := HM1.out.set _ _
  refine (word_yes H2.out (by decide) rfl (by simp [Par.past, openN, HOp.out, tsA])).mono ?_
  rintro e w3 ⟨rfl, v3, u3, h3', hm3⟩
  have H3 := Lib.hid h3'
  have HM3 : Hid (Mv pb base w w3) := HM2.out.trans hm3
  have d15 := h3'.parB.cell 15 (v := .string par.word) rfl
  have d16 := h3'.parB.cell 16 (v := .int .i64 par.wat) rfl
  have d17 := h3'.parB.cell 17 (v := par.index) rfl
  rw [h0] at d17
  have z15 := h3'.parB.thawed 15
  have z16 := h3'.parB.thawed 16
  have z17 := h3'.parB.thawed 17
  clear h3' hm3 H1 H2 HM1 HM2 d7 d14 z14
  unfold refV
  rw [show mkS tsA[1].s = (⟨#[115]⟩ : ByteArray) by kernel_rfl, show ((tsA[1].at_ : Nat) : Int) = 7 by kernel_rfl]
  go_wp2_with fail
  have H4 : Hid (Rt (((w3.setCell ⟨pb, 15, none⟩ (.string ⟨#[115]⟩)).setCell ⟨pb, 16, none⟩ (.int .i64 7)).setCell ⟨pb, 17, none⟩ (.slice none 0 0)) pb base b o cap g lc zsA tsA 2 { (Par.past { (par.past tsA[0] v1 u1) with pos := 0 } tsA[1] v3 u3) with word := ⟨#[115]⟩, wat := 7, index := .slice none 0 0 } []) :=
    (((H3.out.put (par' := { (Par.past { (par.past tsA[0] v1 u1) with pos := 0 } tsA[1] v3 u3) with word := ⟨#[115]⟩ }) rfl rfl rfl rfl).put (par' := { (Par.past { (par.past tsA[0] v1 u1) with pos := 0 } tsA[1] v3 u3) with word := ⟨#[115]⟩, wat := 7 }) rfl rfl rfl rfl).put rfl rfl rfl rfl)
  have HM4 : Hid (Mv pb base w (((w3.setCell ⟨pb, 15, none⟩ (.string ⟨#[115]⟩)).setCell ⟨pb, 16, none⟩ (.int .i64 7)).setCell ⟨pb, 17, none⟩ (.slice none 0 0))) := ((HM3.out.set _ _).set _ _).set _ _
  obtain ⟨W4, hW4⟩ : ∃ W4, (((w3.setCell ⟨pb, 15, none⟩ (.string ⟨#[115]⟩)).setCell ⟨pb, 16, none⟩ (.int .i64 7)).setCell ⟨pb, 17, none⟩ (.slice none 0 0)) = W4 := ⟨_, rfl⟩
  rw [hW4] at H4 HM4 ⊢
  clear hW4 H3 HM3 d15 d16 d17 z15 z16 z17
  refine (block_none H4.out (by decide) (by decide) (by decide) (by decide) (by kernel_rfl) (by decide) (by decide) (by kernel_rfl) rfl rfl (by simp [Par.past, openN, HOp.out, tsA])).mono ?_
  rintro e w5 ⟨rfl, v5, u5, v6, u6, h5, hm5⟩
  have H5 := Lib.hid h5
  have HM5 : Hid (Mv pb base w w5) := HM4.out.trans hm5
  have d20 := h5.parB.cell 20 (v := par.nodes) rfl
  rw [h3] at d20
  have z20 := h5.parB.thawed 20
  clear h5 hm5 H4 HM4
  go_wp2_with fail
  obtain ⟨la, lc', hla⟩ := H5.out.done rfl
  have H6 : Hid (ParB (w5.setCell ⟨pb, 20, none⟩ (.slice none 0 0)) pb { (Par.past (Par.past { (Par.past { (par.past tsA[0] v1 u1) with pos := 0 } tsA[1] v3 u3) with word := ⟨#[115]⟩, wat := 7, index := .slice none 0 0 } tsA[2] v5 u5) tsA[3] v6 u6) with nodes := .slice none 0 0 }) := H5.out.parB.put rfl
  refine (ends_ok H6.out hla HWh.out).mono ?_
  rintro e w7 ⟨rfl, rfl⟩
  go_wp2_with fail
  go_end0
  exact ⟨rfl, _, H6.out, rfl, rfl, rfl, rfl, rfl, rfl, rfl, HM5.out.set _ _⟩
set_option maxRecDepth 100000 in
set_option maxHeartbeats 4000000 in
theorem policy_bad {w : World} {pb base b o cap g lc : Nat} {par : Par} (h : Rt w pb base b o cap g lc zsB tsB 0 par []) (ho : par.open_ = 0) (h0 : par.index = .slice none 0 0) (h2 : par.top = .slice none 0 0) :
    Calls Tryz.prog 11 #[.pointer (some ⟨pb, 0, none⟩)] w fun e w' => e = stopE 60 ∧ ∃ par', ParB w' pb par' ∧ par'.wrong = 13 ∧ par'.why = 60 ∧ Mv pb base w w' := by
  have HN := Lib.hid (needs_yes ⟨#[115, 121, 115, 116, 101, 109]⟩ h (by decide) (by decide) (by decide) (by kernel_rfl) (by omega) (by rw [ho]; decide) (by simp))
  have HOp : Hid (par.open_ = 0) := ho
  clear h ho
  go_enter Tryz.func11, Tryz.ntmps11
  go_wp2_with fail
  refine HN.out.mono ?_
  rintro e w1 ⟨rfl, v1, u1, h1, hm1⟩
  have H1 := Lib.hid h1
  have HM1 := Lib.hid hm1
  have d7 := h1.parB.cell 7 (v := .int .i64 1) rfl
  have d14 := h1.parB.cell 14 (v := .int .i64 par.pos) rfl
  have z14 := h1.parB.thawed 14
  clear h1 hm1 HN
  go_wp2_with fail
  have H2 : Hid (Rt (w1.setCell ⟨pb, 14, none⟩ (.int .i64 1)) pb base b o cap g lc zsB tsB 1 { (par.past tsB[0] v1 u1) with pos := 1 } []) := H1.out.put rfl rfl rfl rfl
  have HM2 : Hid (Mv pb base w (w1.setCell ⟨pb, 14, none⟩ (.int .i64 1))) := HM1.out.set _ _
  refine (word_yes H2.out (by decide) rfl (by simp [Par.past, openN, HOp.out, tsB])).mono ?_
  rintro e w3 ⟨rfl, v3, u3, h3', hm3⟩
  have H3 := Lib.hid h3'
  have HM3 : Hid (Mv pb base w w3) := HM2.out.trans hm3
  have d15 := h3'.parB.cell 15 (v := .string par.word) rfl
  have d16 := h3'.parB.cell 16 (v := .int .i64 par.wat) rfl
  have d17 := h3'.parB.cell 17 (v := par.index) rfl
  rw [h0] at d17
  have z15 := h3'.parB.thawed 15
  have z16 := h3'.parB.thawed 16
  have z17 := h3'.parB.thawed 17
  clear h3' hm3 H1 H2 HM1 HM2 d7 d14 z14
  unfold refV
  rw [show mkS tsB[1].s = (⟨#[115]⟩ : ByteArray) by kernel_rfl, show ((tsB[1].at_ : Nat) : Int) = 8 by kernel_rfl]
  go_wp2_with fail
  have H4 : Hid (Rt (((w3.setCell ⟨pb, 15, none⟩ (.string ⟨#[115]⟩)).setCell ⟨pb, 16, none⟩ (.int .i64 8)).setCell ⟨pb, 17, none⟩ (.slice none 0 0)) pb base b o cap g lc zsB tsB 2 { (Par.past { (par.past tsB[0] v1 u1) with pos := 1 } tsB[1] v3 u3) with word := ⟨#[115]⟩, wat := 8, index := .slice none 0 0 } []) :=
    (((H3.out.put (par' := { (Par.past { (par.past tsB[0] v1 u1) with pos := 1 } tsB[1] v3 u3) with word := ⟨#[115]⟩ }) rfl rfl rfl rfl).put (par' := { (Par.past { (par.past tsB[0] v1 u1) with pos := 1 } tsB[1] v3 u3) with word := ⟨#[115]⟩, wat := 8 }) rfl rfl rfl rfl).put rfl rfl rfl rfl)
  have HM4 : Hid (Mv pb base w (((w3.setCell ⟨pb, 15, none⟩ (.string ⟨#[115]⟩)).setCell ⟨pb, 16, none⟩ (.int .i64 8)).setCell ⟨pb, 17, none⟩ (.slice none 0 0))) := ((HM3.out.set _ _).set _ _).set _ _
  obtain ⟨W4, hW4⟩ : ∃ W4, (((w3.setCell ⟨pb, 15, none⟩ (.string ⟨#[115]⟩)).setCell ⟨pb, 16, none⟩ (.int .i64 8)).setCell ⟨pb, 17, none⟩ (.slice none 0 0)) = W4 := ⟨_, rfl⟩
  rw [hW4] at H4 HM4 ⊢
  clear hW4 H3 HM3 d15 d16 d17 z15 z16 z17
  refine (block_bad H4.out (by decide) (by decide) (by decide) (by decide) (by kernel_rfl) (by decide) (by decide) (by decide) (by decide) (by decide) rfl (by simp [Par.past, openN, HOp.out, tsB]) h2 (by decide)).mono ?_
  rintro e w5 ⟨rfl, par', h5, e1, e2, hm5⟩
  exact ⟨rfl, rfl, par', h5, e1.trans (by kernel_rfl), e2, HM4.out.trans hm5⟩
end Go.Proofs.YtmkibolkcjallaaGreatDoor
