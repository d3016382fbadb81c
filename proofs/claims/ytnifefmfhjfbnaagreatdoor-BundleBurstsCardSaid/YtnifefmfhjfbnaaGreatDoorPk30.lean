import Derived.Test.YtnifefmfhjfbnaaGreatDoorPk29
/- Bundle: the bus, the ports, the tables are taken. Own work. -/
namespace Go.Proofs.YtnifefmfhjfbnaaGreatDoor
open Go.RowKit Bn Dc
set_option linter.unusedVariables false
set_option linter.unusedSimpArgs false
namespace Dc
structure BusR where
 rams : List Rg
 devs : List Rg
def busD (q : Pt) (s : D) : BusR × D :=
 let a := takeD q 2 s
 let b := takeD q 2 a.2
 let c := listD (spanD q) a.1 (zerosD q 4 b.2)
 let d := listD (spanD q) b.1 c.2
 (⟨c.1, d.1⟩, d.2)
def portsD (q : Pt) (m : Nat) (s : D) : List Int × D :=
 let a := takeD q 2 s
 listD (portD q) a.1 (zerosD q 6 (formD q (decide (a.1 = m)) 0 a.2))
def tabsD (q : Pt) (s : D) : List (Nat → Nat) × D := listD (tabD q) ((q.Z.length - s.pos) / 4096) s
end Dc
section
variable {B kb : Nat} {raw : Value} {im en : List Value} {q : Pt} {p g : Nat} {w0 : World} {s : D} {w w' : World}
theorem lspanX (h : Dt B kb raw im en q p g w0 s w) {n : Nat} (hn : n ≤ 65535) : Calls Tryz.prog 89 #[.pointer (some ⟨kb, 0, none⟩), .int .i64 (n : Int), (.func (.func 90) #[.pointer (some ⟨kb, 0, none⟩)] #[])] w fun e w' => ∃ x, e = .returned (slE1 x) ∧ OwnG 79 2 rgE w' 0 (slE1 x) (listD (spanD q) n s).1 ∧ Dt B kb raw im en q p g w0 (listD (spanD q) n s).2 w' ∧ Fd B w w' :=
 (listRgX (R := fun _ x y => x = y) (fun _ _ _ _ h _ => h) (spanD q) (fun W t hW _ => (spanX hW).mono (fun e w' h => ⟨_, h.1, rfl, h.2⟩)) h.here (by omega)).mono (fun e w' ⟨v, xs, he, ho, ht, hd⟩ => by
  obtain ⟨a, c, hv, _⟩ := ho.form
  exact ⟨⟨a, xs.length, c⟩, by rw [he, hv]; rfl, by rw [← slE1_of hv, ← ht.eq]; exact ho.zero, hd.since h.fr, hd.fr⟩)
set_option maxRecDepth 100000 in
set_option maxHeartbeats 4000000 in
theorem rdBusX (h : Dt B kb raw im en q p g w0 s w) : Calls Tryz.prog 47 #[.pointer (some ⟨kb, 0, none⟩)] w fun e w' => e = .returned (.tuple #[]) ∧ ∃ v1 x2, OwnG 79 2 rgE w' 0 v1 (busD q s).1.rams ∧ OwnG 79 2 rgE w' 0 (slE1 x2) (busD q s).1.devs ∧ Dt B kb raw ((im.set 1 v1).set 2 (slE1 x2)) en q p g w0 (busD q s).2 w' := by
 obtain ⟨n1, s1, e0⟩ : ∃ v t, takeD q 2 s = (v, t) := ⟨_, _, rfl⟩
 obtain ⟨n2, s2, e1⟩ : ∃ v t, takeD q 2 s1 = (v, t) := ⟨_, _, rfl⟩
 obtain ⟨s3, e2⟩ : ∃ t, zerosD q 4 s2 = t := ⟨_, rfl⟩
 obtain ⟨xs, s4, e3⟩ : ∃ v t, listD (spanD q) n1 s3 = (v, t) := ⟨_, _, rfl⟩
 obtain ⟨ys, s5, e4⟩ : ∃ v t, listD (spanD q) n2 s4 = (v, t) := ⟨_, _, rfl⟩
 have b0 : n1 ≤ 65535 := by have h9 := take_lt h.small 2 s; rw [e0] at h9; exact Nat.le_of_lt_succ h9
 have b1 : n2 ≤ 65535 := by have h9 := take_lt h.small 2 s1; rw [e1] at h9; exact Nat.le_of_lt_succ h9
 have HE : busD q s = (⟨xs, ys⟩, s5) := by simp only [busD, e0, e1, e2, e3, e4]
 rw [HE]
 clear HE
 dsimp only
 have H0 : Hid (Dt B kb raw im en q p g w0 s w) := h
 have K0 : Hid (∀ W, Dt B kb raw im en q p g w0 s W → Calls Tryz.prog 87 #[.pointer (some ⟨kb, 0, none⟩)] W fun e w' => e = .returned (.int .i64 (n1 : Nat)) ∧ Dt B kb raw im en q p g w0 s1 w') := fun W hW => by have h9 := dhalfX hW; rw [e0] at h9; exact h9
 have K1 : Hid (∀ W, Dt B kb raw im en q p g w0 s1 W → Calls Tryz.prog 87 #[.pointer (some ⟨kb, 0, none⟩)] W fun e w' => e = .returned (.int .i64 (n2 : Nat)) ∧ Dt B kb raw im en q p g w0 s2 w') := fun W hW => by have h9 := dhalfX hW; rw [e1] at h9; exact h9
 have K2 : Hid (∀ W, Dt B kb raw im en q p g w0 s2 W → Calls Tryz.prog 88 #[.pointer (some ⟨kb, 0, none⟩), .int .i64 4] W fun e w' => e = .returned (.tuple #[]) ∧ Dt B kb raw im en q p g w0 s3 w') := fun W hW => by have h9 := dzerosX hW (n := 4) (by decide); rw [e2] at h9; exact h9
 have K3 : Hid (∀ W, Dt B kb raw im en q p g w0 s3 W → Calls Tryz.prog 89 #[.pointer (some ⟨kb, 0, none⟩), .int .i64 (n1 : Int), (.func (.func 90) #[.pointer (some ⟨kb, 0, none⟩)] #[])] W fun e w' => ∃ x, e = .returned (slE1 x) ∧ OwnG 79 2 rgE w' 0 (slE1 x) xs ∧ Dt B kb raw im en q p g w0 s4 w' ∧ Fd B W w') := fun W hW => by have h9 := lspanX hW (n := n1) b0; rw [e3] at h9; exact h9
 have K4 : Hid (∀ W im, Dt B kb raw im en q p g w0 s4 W → Calls Tryz.prog 89 #[.pointer (some ⟨kb, 0, none⟩), .int .i64 (n2 : Int), (.func (.func 90) #[.pointer (some ⟨kb, 0, none⟩)] #[])] W fun e w' => ∃ x, e = .returned (slE1 x) ∧ OwnG 79 2 rgE w' 0 (slE1 x) ys ∧ Dt B kb raw im en q p g w0 s5 w' ∧ Fd B W w') := fun W im hW => by have h9 := lspanX hW (n := n2) b1; rw [e4] at h9; exact h9
 clear h e0 e1 e2 e3 e4
 go_enter Tryz.func47, Tryz.ntmps47
 go_wp2_with fail
 refine (K0.out _ H0.out).mono ?_
 rintro e w1 ⟨rfl, h1⟩
 have HK1 := Lib.hid (K1.out _ h1)
 clear h1 H0 K0 K1
 go_wp2_with fail
 refine HK1.out.mono ?_
 rintro e w2 ⟨rfl, h2⟩
 have HK2 := Lib.hid (K2.out _ h2)
 clear h2 HK1 K2
 go_wp2_with fail
 refine HK2.out.mono ?_
 rintro e w3 ⟨rfl, h3⟩
 have HK3 := Lib.hid (K3.out _ h3)
 clear h3 HK2 K3
 go_wp2_with fail
 refine HK3.out.mono ?_
 rintro e w4 ⟨⟨xa, xn, xc⟩, rfl, ho, h4, _⟩
 obtain ⟨u, hu⟩ := h4.cIm (i := 1) (by decide)
 have fu := h4.free 2
 have HO5 : Hid (OwnG 79 2 rgE (w4.setCell ⟨kb, 1 + 1, none⟩ (slE1 ⟨xa, xn, xc⟩)) 0 (slE1 ⟨xa, xn, xc⟩) xs) := ho.fd (h4.fdSet _ _) (by decide) (by decide)
 have h5 := h4.setIm (i := 1) (by decide) (slE1 ⟨xa, xn, xc⟩)
 have HK4 := Lib.hid (K4.out _ _ h5)
 simp only [slE1, show (1 + 1 : Nat) = 2 from rfl] at HO5 HK4 hu ⊢
 clear ho h4 h5 HK3 K4
 go_wp2_with fail
 refine HK4.out.mono ?_
 rintro e w6 ⟨⟨ya, yn, yc⟩, rfl, ho6, h6, hf6⟩
 obtain ⟨u2, hu2⟩ := h6.cIm (i := 2) (by decide)
 have fu2 := h6.free 3
 have HO7 : Hid (OwnG 79 2 rgE (w6.setCell ⟨kb, 1 + 2, none⟩ (slE1 ⟨ya, yn, yc⟩)) 0 (.slice xa xn xc) xs) := (HO5.out.fd hf6 (by decide) (by decide)).fd (h6.fdSet _ _) (by decide) (by decide)
 have HP7 : Hid (OwnG 79 2 rgE (w6.setCell ⟨kb, 1 + 2, none⟩ (slE1 ⟨ya, yn, yc⟩)) 0 (slE1 ⟨ya, yn, yc⟩) ys) := ho6.fd (h6.fdSet _ _) (by decide) (by decide)
 have H7 := Lib.hid (h6.setIm (i := 2) (by decide) (slE1 ⟨ya, yn, yc⟩))
 simp only [show (1 + 2 : Nat) = 3 from rfl] at HO7 HP7 H7 hu2
 simp only [slE1] at HO7 ⊢
 clear ho6 h6 hf6 HK4 HO5
 go_wp2_with fail
 go_end0
 exact ⟨rfl, _, ⟨ya, yn, yc⟩, HO7.out, HP7.out, H7.out⟩
set_option maxRecDepth 100000 in
set_option maxHeartbeats 4000000 in
theorem rdPortsX (h : Dt B kb raw im en q p g w0 s w) {da : Option Addr} {m dc : Nat} (hd : im[2]? = some (.slice da m dc)) : Calls Tryz.prog 49 #[.pointer (some ⟨kb, 0, none⟩)] w fun e w' => e = .returned (.tuple #[]) ∧ SecP 73 1 poE 4 B kb raw im en q p g w0 (portsD q m s).1 (portsD q m s).2 w' := by
 obtain ⟨n, s1, e0⟩ : ∃ v t, takeD q 2 s = (v, t) := ⟨_, _, rfl⟩
 obtain ⟨s2, e1⟩ : ∃ t, formD q (decide (n = m)) 0 s1 = t := ⟨_, rfl⟩
 obtain ⟨s3, e2⟩ : ∃ t, zerosD q 6 s2 = t := ⟨_, rfl⟩
 obtain ⟨ys, s4, e3⟩ : ∃ v t, listD (portD q) n s3 = (v, t) := ⟨_, _, rfl⟩
 have b0 : n ≤ 65535 := by have h9 := take_lt h.small 2 s; rw [e0] at h9; exact Nat.le_of_lt_succ h9
 have HE : portsD q m s = (ys, s4) := by simp only [portsD, e0, e1, e2, e3]
 rw [HE]
 clear HE
 dsimp only
 have H0 : Hid (Dt B kb raw im en q p g w0 s w) := h
 have HC3 : Hid (∀ W t, Dt B kb raw im en q p g w0 t W → W.cell? ⟨kb, 3, none⟩ = some (.slice da m dc)) := fun W t hW => (hW.cell 3).trans ((rdC_im (i := 2) hW.him (by decide)).trans hd)
 have K0 : Hid (∀ W, Dt B kb raw im en q p g w0 s W → Calls Tryz.prog 87 #[.pointer (some ⟨kb, 0, none⟩)] W fun e w' => e = .returned (.int .i64 (n : Nat)) ∧ Dt B kb raw im en q p g w0 s1 w') := fun W hW => by have h9 := dhalfX hW; rw [e0] at h9; exact h9
 have K1 : Hid (∀ W, Dt B kb raw im en q p g w0 s1 W → Calls Tryz.prog 56 #[.pointer (some ⟨kb, 0, none⟩), .bool (decide (n = m)), .int .i64 0] W fun e w' => e = .returned (.tuple #[]) ∧ Dt B kb raw im en q p g w0 s2 w') := fun W hW => by have h9 := dformX hW (decide (n = m)) (a := 0) (by decide); rw [e1] at h9; exact h9
 have K2 : Hid (∀ W, Dt B kb raw im en q p g w0 s2 W → Calls Tryz.prog 88 #[.pointer (some ⟨kb, 0, none⟩), .int .i64 6] W fun e w' => e = .returned (.tuple #[]) ∧ Dt B kb raw im en q p g w0 s3 w') := fun W hW => by have h9 := dzerosX hW (n := 6) (by decide); rw [e2] at h9; exact h9
 have K3 : Hid (∀ W, Dt B kb raw im en q p g w0 s3 W → Calls Tryz.prog 94 #[.pointer (some ⟨kb, 0, none⟩), .int .i64 (n : Int), (.func (.func 95) #[.pointer (some ⟨kb, 0, none⟩)] #[])] W fun e w' => ∃ x, e = .returned (slE1 x) ∧ OwnG 73 1 poE w' 0 (slE1 x) ys ∧ Dt B kb raw im en q p g w0 s4 w') := fun W hW => (listPoX (R := fun _ x y => x = y) (fun _ _ _ _ h _ => h) (portD q) (fun W t hW _ => (portX hW).mono (fun e w' h => ⟨_, h.1, rfl, h.2⟩)) hW.here (n := n) (by omega)).mono (fun e w' ⟨v, xs, he, ho, ht, hd⟩ => by
  obtain ⟨a, c, hv, _⟩ := ho.form
  rw [e3] at ht hd
  have e9 : xs = ys := ht.eq
  exact ⟨⟨a, xs.length, c⟩, by rw [he, hv]; rfl, by rw [← slE1_of hv, ← e9]; exact ho.zero, hd.since hW.fr⟩)
 clear h e0 e1 e2 e3 hd
 have key : ∀ b, b = decide (n = m) → (decide ((n : Int) = (m : Int))) = b := fun b hb => by rw [hb]; by_cases h : n = m <;> simp [h] <;> omega
 have HKy := Lib.hid key
 clear key
 generalize hbb : decide (n = m) = b at K1
 have hb2 := HKy.out b hbb.symm
 have hb3 : ((n : Int) == (m : Int)) = b := hb2
 clear hbb HKy b0
 go_enter Tryz.func49, Tryz.ntmps49
 go_wp2_with fail
 refine (K0.out _ H0.out).mono ?_
 rintro e w1 ⟨rfl, h1⟩
 have HK1 := Lib.hid (K1.out _ h1)
 have c3 := HC3.out _ _ h1
 clear h1 H0 K0 K1
 go_wp2_with fail
 refine HK1.out.mono ?_
 rintro e w2 ⟨rfl, h2⟩
 have HK2 := Lib.hid (K2.out _ h2)
 clear h2 HK1 K2 c3
 go_wp2_with fail
 refine HK2.out.mono ?_
 rintro e w3 ⟨rfl, h3⟩
 have HK3 := Lib.hid (K3.out _ h3)
 clear h3 HK2 K3
 go_wp2_with fail
 refine HK3.out.mono ?_
 rintro e w4 ⟨⟨xa, xn, xc⟩, rfl, ho, h4⟩
 obtain ⟨u, hu⟩ := h4.cIm (i := 4) (by decide)
 have fu := h4.free 5
 have H5 : Hid (SecP 73 1 poE 4 B kb raw im en q p g w0 ys s4 (w4.setCell ⟨kb, 1 + 4, none⟩ (slE1 ⟨xa, xn, xc⟩))) := ⟨_, ho.fd (h4.fdSet _ _) (by decide) (by decide), h4.setIm (by decide) _⟩
 simp only [slE1, show (1 + 4 : Nat) = 5 from rfl] at H5 hu ⊢
 clear ho h4 HK3
 go_wp2_with fail
 go_end0
 exact ⟨rfl, H5.out⟩
set_option maxRecDepth 100000 in
set_option maxHeartbeats 4000000 in
theorem rdTabsX (h : Dt B kb raw im en q p g w0 s w) (hz : q.Z.length ≤ 4194304000) : Calls Tryz.prog 54 #[.pointer (some ⟨kb, 0, none⟩)] w fun e w' => e = .returned (.tuple #[]) ∧ SecP 77 512 tbE 11 B kb raw im en q p g w0 (tabsD q s).1 (tabsD q s).2 w' := by
 have c59 := h.c59
 have HA : Hid (Calls Tryz.prog 107 #[.pointer (some ⟨p, 0, none⟩)] w fun e w' => e = .returned (.int .i64 ((q.Z.length - s.pos : Nat) : Int)) ∧ Dt B kb raw im en q p g w0 s w') := (rleft_any h.rd).mono (fun e w' h9 => ⟨h9.1, h.below h9.2.2⟩)
 unfold tabsD
 have hl : q.Z.length - s.pos ≤ 4194304000 := by omega
 clear hz
 generalize q.Z.length - s.pos = l at *
 obtain ⟨n, hn⟩ : ∃ n, l / 4096 = n := ⟨_, rfl⟩
 have hn2 : n ≤ 1024000 := by omega
 have hq : (l : Int).tdiv 4096 = (n : Int) := by rw [← hn]; rfl
 have hq2 : IntKind.i64.wrap (n : Int) = (n : Int) := by rw [IntKind.wrap_i64]; omega
 rw [hn]
 have HL : Hid (∀ W, Dt B kb raw im en q p g w0 s W → Calls Tryz.prog 106 #[.pointer (some ⟨kb, 0, none⟩), .int .i64 (n : Int), (.func (.func 108) #[.pointer (some ⟨kb, 0, none⟩)] #[])] W fun e w' => ∃ x, e = .returned (slE1 x) ∧ OwnG 77 512 tbE w' 0 (slE1 x) (listD (tabD q) n s).1 ∧ Dt B kb raw im en q p g w0 (listD (tabD q) n s).2 w') := fun W hW => (listTbX (R := fun _ x y => x = y) (fun _ _ _ _ h _ => h) (tabD q) (fun W t hW _ => dtableX hW) hW.here (by omega)).mono (fun e w' ⟨v, xs, he, ho, ht, hd⟩ => by
  obtain ⟨a, c, hv, _⟩ := ho.form
  exact ⟨⟨a, xs.length, c⟩, by rw [he, hv]; rfl, by rw [← slE1_of hv, ← ht.eq]; exact ho.zero, hd.since hW.fr⟩)
 generalize (listD (tabD q) n s).1 = ys at *
 generalize (listD (tabD q) n s).2 = t2 at *
 clear h hn
 go_enter Tryz.func54, Tryz.ntmps54
 go_wp2_with fail
 refine HA.out.mono ?_
 rintro e w1 ⟨rfl, h1⟩
 have HL1 := Lib.hid (HL.out _ h1)
 clear h1 HA HL c59
 go_wp2_with fail
 refine HL1.out.mono ?_
 rintro e w2 ⟨⟨xa, xn, xc⟩, rfl, ho, h2⟩
 obtain ⟨u, hu⟩ := h2.cIm (i := 11) (by decide)
 have fu := h2.free 12
 have H3 : Hid (SecP 77 512 tbE 11 B kb raw im en q p g w0 ys t2 (w2.setCell ⟨kb, 1 + 11, none⟩ (slE1 ⟨xa, xn, xc⟩))) := ⟨_, ho.fd (h2.fdSet _ _) (by decide) (by decide), h2.setIm (by decide) _⟩
 simp only [slE1, show (1 + 11 : Nat) = 12 from rfl] at H3 hu ⊢
 clear ho h2 HL1
 go_wp2_with fail
 go_end0
 exact ⟨rfl, H3.out⟩
end
end Go.Proofs.YtnifefmfhjfbnaaGreatDoor
/- Bundle: plans are taken. Own work. -/
namespace Go.Proofs.YtnifefmfhjfbnaaGreatDoor
open Go.RowKit Bn Dc
set_option linter.unusedVariables false
set_option linter.unusedSimpArgs false
namespace Dc
structure PlR where
 plans : List Sc
 master : Int
 start : Nat
def plansD (q : Pt) (s : D) : PlR × D :=
 let a := takeD q 2 s
 let b := takeD q 2 a.2
 let c := noneD q (formD q (decide (0 < a.1) || decide (b.1 = 0)) a.2.pos b.2)
 let d := takeD q 2 c.2
 let e := listD (planD q b.1) a.1 d.2
 (⟨e.1, c.1, d.1⟩, e.2)
end Dc
/-- a row of plans that the reader made -/
def PlO (W : World) (v : Value) (ps : List Sc) : Prop := ∃ us : List (Int × SlV), OwnG 87 2 scE W 0 v us ∧ T2 (ScO W) us ps
section
variable {B kb : Nat} {raw : Value} {im en : List Value} {q : Pt} {p g : Nat} {w0 : World} {s : D} {w w' : World}
theorem PlO.fd {v : Value} {ps : List Sc} (h : PlO w v ps) (hf : Fd B w w') : PlO w' v ps := by
 obtain ⟨us, ho, ht⟩ := h
 exact ⟨us, ho.fd hf (by decide) (by decide), ht.imp (fun x y h => ⟨h.1, h.2.rz (hf.rz 87) (by decide) (by decide)⟩)⟩
theorem lplanX {b1 b2 N : Nat} (h : Dt B kb raw im en q p g w0 s w) (hb : Bx2 kb b1 b2 N w) (hN : N ≤ 65535) {n : Nat} (hn : n ≤ 65535) : Calls Tryz.prog 102 #[.pointer (some ⟨kb, 0, none⟩), .int .i64 (n : Int), (.func (.func 103) #[] #[.pointer (some ⟨b1, 0, none⟩), .pointer (some ⟨b2, 0, none⟩)])] w fun e w' => ∃ x, e = .returned (slE1 x) ∧ PlO w' (slE1 x) (listD (planD q N) n s).1 ∧ Dt B kb raw im en q p g w0 (listD (planD q N) n s).2 w' ∧ Fd B w w' :=
 (listScX (R := ScO) (fun _ _ _ _ h hz => ⟨h.1, h.2.rz hz (by decide) (by decide)⟩) (planD q N) (fun W t hW hf => dplanX hW (hb.fd hf) hN) h.here (by omega)).mono (fun e w' ⟨v, xs, he, ho, ht, hd⟩ => by
  obtain ⟨a, c, hv, _⟩ := ho.form
  exact ⟨⟨a, xs.length, c⟩, by rw [he, hv]; rfl, ⟨xs, by rw [← slE1_of hv]; exact ho.zero, ht⟩, hd.since h.fr, hd.fr⟩)
set_option maxRecDepth 100000 in
set_option maxHeartbeats 4000000 in
theorem rdPlansX (h : Dt B kb raw im en q p g w0 s w) : Calls Tryz.prog 53 #[.pointer (some ⟨kb, 0, none⟩)] w fun e w' => e = .returned (.tuple #[]) ∧ ∃ v, PlO w' v (plansD q s).1.plans ∧ Dt B kb raw (((im.set 9 (.int .i64 (plansD q s).1.master)).set 10 (.int .i64 ((plansD q s).1.start : Nat))).set 8 v) en q p g w0 (plansD q s).2 w' := by
 obtain ⟨h1, hf1, hb1, hl1⟩ := h.boxed (.cells ([.pointer (some ⟨kb, 0, none⟩)] : List Value).toArray 63)
 have HF := Lib.hid hf1
 have nk1 : ¬ kb = w.heap.size := by have := h.lt; omega
 have nk2 : ¬ w.heap.size = kb := by have := h.lt; omega
 have HB1 : Hid (∀ W t im, Dt B kb raw im en q p g (w.alloc (.cells ([.pointer (some ⟨kb, 0, none⟩)] : List Value).toArray 63)) t W → W.heap[w.heap.size]? = some (.cells ([.pointer (some ⟨kb, 0, none⟩)] : List Value).toArray 63 (0, 0))) := fun W t im hW => hW.box hb1 (by decide) (by decide)
 have HBc : Hid (∀ W t im, Dt B kb raw im en q p g (w.alloc (.cells ([.pointer (some ⟨kb, 0, none⟩)] : List Value).toArray 63)) t W → W.cell? ⟨w.heap.size, 0, none⟩ = some (.pointer (some ⟨kb, 0, none⟩))) := fun W t im hW => box_cell (HB1.out _ _ _ hW) 0
 have H0 : Hid (Dt B kb raw im en q p g (w.alloc (.cells ([.pointer (some ⟨kb, 0, none⟩)] : List Value).toArray 63)) s (w.alloc (.cells ([.pointer (some ⟨kb, 0, none⟩)] : List Value).toArray 63))) := h1
 obtain ⟨n, s1, e0⟩ : ∃ v t, takeD q 2 s = (v, t) := ⟨_, _, rfl⟩
 obtain ⟨N, s2, e1⟩ : ∃ v t, takeD q 2 s1 = (v, t) := ⟨_, _, rfl⟩
 obtain ⟨bb, hbb⟩ : ∃ b, (decide (0 < n) || decide (N = 0)) = b := ⟨_, rfl⟩
 obtain ⟨s3, e2⟩ : ∃ t, formD q bb s1.pos s2 = t := ⟨_, rfl⟩
 obtain ⟨ms, s4, e3⟩ : ∃ v t, noneD q s3 = (v, t) := ⟨_, _, rfl⟩
 obtain ⟨st, s5, e4⟩ : ∃ v t, takeD q 2 s4 = (v, t) := ⟨_, _, rfl⟩
 obtain ⟨ys, s6, e5⟩ : ∃ v t, listD (planD q N) n s5 = (v, t) := ⟨_, _, rfl⟩
 have b0 : n ≤ 65535 := by have h9 := take_lt h.small 2 s; rw [e0] at h9; exact Nat.le_of_lt_succ h9
 have b1 : N ≤ 65535 := by have h9 := take_lt h.small 2 s1; rw [e1] at h9; exact Nat.le_of_lt_succ h9
 have HE : plansD q s = (⟨ys, ms, st⟩, s6) := by simp only [plansD, e0, e1, hbb, e2, e3, e4, e5]
 rw [HE]
 clear HE
 dsimp only
 have hps : s1.pos ≤ 1099511627776 := by
  have h8 := h.rd.2.2.2.1
  have h9 := take_pos_le (q := q) h8 2
  rw [e0] at h9
  have := h.hlen
  dsimp only at h9
  omega
 have K0 : Hid (∀ W w9, Dt B kb raw im en q p g w9 s W → Calls Tryz.prog 87 #[.pointer (some ⟨kb, 0, none⟩)] W fun e w' => e = .returned (.int .i64 (n : Nat)) ∧ Dt B kb raw im en q p g w9 s1 w') := fun W w9 hW => by have h9 := dhalfX hW; rw [e0] at h9; exact h9
 have KA : Hid (∀ W w9, Dt B kb raw im en q p g w9 s1 W → Calls Tryz.prog 58 #[.pointer (some ⟨p, 0, none⟩)] W fun e w' => e = .returned (.int .i64 (s1.pos : Int)) ∧ w' = W) := fun W w9 hW => rat_any hW.rd
 have K1 : Hid (∀ W w9, Dt B kb raw im en q p g w9 s1 W → Calls Tryz.prog 87 #[.pointer (some ⟨kb, 0, none⟩)] W fun e w' => e = .returned (.int .i64 (N : Nat)) ∧ Dt B kb raw im en q p g w9 s2 w') := fun W w9 hW => by have h9 := dhalfX hW; rw [e1] at h9; exact h9
 have K2 : Hid (∀ W w9, Dt B kb raw im en q p g w9 s2 W → Calls Tryz.prog 56 #[.pointer (some ⟨kb, 0, none⟩), .bool bb, .int .i64 (s1.pos : Int)] W fun e w' => e = .returned (.tuple #[]) ∧ Dt B kb raw im en q p g w9 s3 w') := fun W w9 hW => by have h9 := dformX hW bb hps; rw [e2] at h9; exact h9
 have K3 : Hid (∀ W w9 im, Dt B kb raw im en q p g w9 s3 W → Calls Tryz.prog 101 #[.pointer (some ⟨kb, 0, none⟩)] W fun e w' => e = .returned (.int .i64 ms) ∧ Dt B kb raw im en q p g w9 s4 w') := fun W w9 im hW => by have h9 := dnoneX hW; rw [e3] at h9; exact h9
 have K4 : Hid (∀ W w9 im, Dt B kb raw im en q p g w9 s4 W → Calls Tryz.prog 87 #[.pointer (some ⟨kb, 0, none⟩)] W fun e w' => e = .returned (.int .i64 (st : Nat)) ∧ Dt B kb raw im en q p g w9 s5 w') := fun W w9 im hW => by have h9 := dhalfX hW; rw [e4] at h9; exact h9
 have K5 : Hid (∀ W w9 im b1 b2, Dt B kb raw im en q p g w9 s5 W → Bx2 kb b1 b2 N W → Calls Tryz.prog 102 #[.pointer (some ⟨kb, 0, none⟩), .int .i64 (n : Int), (.func (.func 103) #[] #[.pointer (some ⟨b1, 0, none⟩), .pointer (some ⟨b2, 0, none⟩)])] W fun e w' => ∃ x, e = .returned (slE1 x) ∧ PlO w' (slE1 x) ys ∧ Dt B kb raw im en q p g w9 s6 w' ∧ Fd B W w') := fun W w9 im b1 b2 hW hb => by have h9 := lplanX hW hb (by assumption) (n := n) b0; rw [e5] at h9; exact h9
 have HBB := Lib.hid hbb
 clear h h1 hf1 hb1 hl1 e0 e1 e2 e3 e4 e5 hbb hps
 have c1 := HBc.out _ _ _ H0.out
 go_enter Tryz.func53, Tryz.ntmps53
 go_wp2_with fail
 refine (K0.out _ _ H0.out).mono ?_
 rintro e w1 ⟨rfl, h1⟩
 have H1 := Lib.hid h1
 have c1' := HBc.out _ _ _ h1
 have c59 := h1.c59
 clear h1 c1 H0 K0
 go_wp2_with fail
 refine (KA.out _ _ H1.out).mono ?_
 rintro e w1' ⟨rfl, h1'⟩
 subst h1'
 go_wp2_with fail
 refine (K1.out _ _ H1.out).mono ?_
 rintro e w2 ⟨rfl, h2⟩
 obtain ⟨h3, hf3, hb3, hl3⟩ := h2.boxed (.cells ([.int .i64 (N : Int)] : List Value).toArray 3)
 have hr3 := (hl3.block w.heap.size (Array.getElem?_eq_some_iff.1 (HB1.out _ _ _ h2)).1).trans (HB1.out _ _ _ h2)
 have nm : ¬ kb = w2.heap.size := by have := h2.lt; omega
 have HBx : Hid (∀ W t im, Dt B kb raw im en q p g (w2.alloc (.cells ([.int .i64 (N : Int)] : List Value).toArray 3)) t W → Bx2 kb w.heap.size w2.heap.size N W) := fun W t im hW => ⟨hW.box hr3 (by decide) (by decide), hW.box hb3 (by decide) (by decide)⟩
 have HF3 : Hid (Fd B w0 (w2.alloc (.cells ([.int .i64 (N : Int)] : List Value).toArray 3))) := HF.out.trans hf3
 have H3 := Lib.hid h3
 have x1 := (HBx.out _ _ _ h3).c1
 have x2 := (HBx.out _ _ _ h3).c2
 clear h2 h3 hf3 hb3 hl3 hr3 H1 K1 KA c1' c59 HB1 HBc HF
 have hbi : n = 0 ∨ 0 < n := by omega
 rcases hbi with hn0 | hn0
 ·subst hn0
  have hN : ((N : Int) == 0) = bb := by
   rw [← HBB.out]
   by_cases h : N = 0 <;> simp [h]
  have hN2 : decide ((N : Int) = 0) = bb := hN
  go_wp2_with fail
  refine (K2.out _ _ H3.out).mono ?_
  rintro e w4 ⟨rfl, h4⟩
  have H4 := Lib.hid h4.drew
  have y1 := (HBx.out _ _ _ h4.drew).c1
  have HCe : Hid (∀ W t im i, i < 12 → Dt B kb raw im en q p g (w2.alloc (.cells ([.int .i64 (N : Int)] : List Value).toArray 3)) t W → (∃ u, W.cell? ⟨kb, 1 + i, none⟩ = some u) ∧ W.frozen? ⟨kb, 1 + i, none⟩ = false) := fun W t im i hi hW => ⟨hW.cIm hi, hW.free _⟩
  clear h4 H3 K2 x1 x2
  go_wp2_with fail
  go_region_held3 (fun W => W.cell? ⟨w.heap.size, 0, none⟩ = some (.pointer (some ⟨kb, 0, none⟩))) (first | assumption | go_keep | (simp [nk1, nk2]; assumption)) (first | (go_at_call 101; refine (K3.out _ _ _ H4.out).mono ?_; rintro e w5 ⟨rfl, h5⟩; have H5 := Lib.hid h5; have z1 := (HBx.out _ _ _ h5).c1; obtain ⟨⟨u9, hu9⟩, fu9⟩ := HCe.out _ _ _ 9 (by decide) h5; simp only [show (1 + 9 : Nat) = 10 from rfl] at hu9 fu9; clear h5 H4 K3))
  all_goals
   have h6 := H5.out.setIm (i := 9) (by decide) (.int .i64 ms)
   simp only [show (1 + 9 : Nat) = 10 from rfl] at h6
   have H6 := Lib.hid h6.drew
   have v1 := (HBx.out _ _ _ h6.drew).c1
   clear h6 H5 z1 hu9 fu9 y1
   go_wp2_with fail
   generalize w5.setCell ⟨kb, 10, none⟩ (.int .i64 ms) = w6 at *
   go_region_held3 (fun W => W.cell? ⟨w.heap.size, 0, none⟩ = some (.pointer (some ⟨kb, 0, none⟩))) (first | assumption | go_keep | (simp [nk1, nk2]; assumption)) (first | (go_at_call 87; refine (K4.out _ _ _ H6.out).mono ?_; rintro e w7 ⟨rfl, h7⟩; have H7 := Lib.hid h7; have z1 := (HBx.out _ _ _ h7).c1; obtain ⟨⟨u9, hu9⟩, fu9⟩ := HCe.out _ _ _ 10 (by decide) h7; simp only [show (1 + 10 : Nat) = 11 from rfl] at hu9 fu9; clear h7 H6 K4))
  all_goals
   have h8 := H7.out.setIm (i := 10) (by decide) (.int .i64 (st : Nat))
   simp only [show (1 + 10 : Nat) = 11 from rfl] at h8
   have H8 := Lib.hid h8.drew
   have HK5 := Lib.hid (K5.out _ _ _ _ _ h8.drew (HBx.out _ _ _ h8.drew))
   have v2 := (HBx.out _ _ _ h8.drew).c1
   simp only [show ((0 : Nat) : Int) = 0 from rfl] at HK5
   clear h8 H7 z1 hu9 fu9 v1 K5
   go_wp2_with fail
   generalize w7.setCell ⟨kb, 11, none⟩ (.int .i64 (st : Nat)) = w8 at *
   go_region_held3 (fun W => W.cell? ⟨w.heap.size, 0, none⟩ = some (.pointer (some ⟨kb, 0, none⟩))) (first | assumption | go_keep | (simp [nk1, nk2]; assumption)) (first | (go_at_call 102; refine HK5.out.mono ?_; rintro e w9 ⟨⟨xa, xn, xc⟩, rfl, ho9, h9, hf9⟩; have H9 := Lib.hid h9; have HO9 := Lib.hid ho9; have z1 := (HBx.out _ _ _ h9).c1; obtain ⟨⟨u9, hu9⟩, fu9⟩ := HCe.out _ _ _ 8 (by decide) h9; simp only [show (1 + 8 : Nat) = 9 from rfl] at hu9 fu9; simp only [slE1] at HO9 ⊢; clear h9 ho9 hf9 H8 HK5))
  all_goals
   have h10 := H9.out.setIm (i := 8) (by decide) (.slice xa xn xc)
   have ho10 := HO9.out.fd (H9.out.fdSet (1 + 8) (.slice xa xn xc))
   simp only [show (1 + 8 : Nat) = 9 from rfl] at h10 ho10
   have H10 := Lib.hid (h10.since HF3.out)
   have HO10 := Lib.hid ho10
   clear h10 ho10 H9 HO9
   go_wp2_with fail
   go_end0
   exact ⟨rfl, _, HO10.out, H10.out⟩
 ·have gi : (0 : Int) < (n : Int) := by omega
  obtain rfl : bb = true := by rw [← HBB.out]; simp [hn0]
  clear hn0
  go_wp2_with fail
  refine (K2.out _ _ H3.out).mono ?_
  rintro e w4 ⟨rfl, h4⟩
  have H4 := Lib.hid h4.drew
  have y1 := (HBx.out _ _ _ h4.drew).c1
  have HCe : Hid (∀ W t im i, i < 12 → Dt B kb raw im en q p g (w2.alloc (.cells ([.int .i64 (N : Int)] : List Value).toArray 3)) t W → (∃ u, W.cell? ⟨kb, 1 + i, none⟩ = some u) ∧ W.frozen? ⟨kb, 1 + i, none⟩ = false) := fun W t im i hi hW => ⟨hW.cIm hi, hW.free _⟩
  clear h4 H3 K2 x1 x2
  go_wp2_with fail
  go_region_held3 (fun W => W.cell? ⟨w.heap.size, 0, none⟩ = some (.pointer (some ⟨kb, 0, none⟩))) (first | assumption | go_keep | (simp [nk1, nk2]; assumption)) (first | (go_at_call 101; refine (K3.out _ _ _ H4.out).mono ?_; rintro e w5 ⟨rfl, h5⟩; have H5 := Lib.hid h5; have z1 := (HBx.out _ _ _ h5).c1; obtain ⟨⟨u9, hu9⟩, fu9⟩ := HCe.out _ _ _ 9 (by decide) h5; simp only [show (1 + 9 : Nat) = 10 from rfl] at hu9 fu9; clear h5 H4 K3))
  all_goals
   have h6 := H5.out.setIm (i := 9) (by decide) (.int .i64 ms)
   simp only [show (1 + 9 : Nat) = 10 from rfl] at h6
   have H6 := Lib.hid h6.drew
   have v1 := (HBx.out _ _ _ h6.drew).c1
   clear h6 H5 z1 hu9 fu9 y1
   go_wp2_with fail
   generalize w5.setCell ⟨kb, 10, none⟩ (.int .i64 ms) = w6 at *
   go_region_held3 (fun W => W.cell? ⟨w.heap.size, 0, none⟩ = some (.pointer (some ⟨kb, 0, none⟩))) (first | assumption | go_keep | (simp [nk1, nk2]; assumption)) (first | (go_at_call 87; refine (K4.out _ _ _ H6.out).mono ?_; rintro e w7 ⟨rfl, h7⟩; have H7 := Lib.hid h7; have z1 := (HBx.out _ _ _ h7).c1; obtain ⟨⟨u9, hu9⟩, fu9⟩ := HCe.out _ _ _ 10 (by decide) h7; simp only [show (1 + 10 : Nat) = 11 from rfl] at hu9 fu9; clear h7 H6 K4))
  all_goals
   have h8 := H7.out.setIm (i := 10) (by decide) (.int .i64 (st : Nat))
   simp only [show (1 + 10 : Nat) = 11 from rfl] at h8
   have H8 := Lib.hid h8.drew
   have HK5 := Lib.hid (K5.out _ _ _ _ _ h8.drew (HBx.out _ _ _ h8.drew))
   have v2 := (HBx.out _ _ _ h8.drew).c1
   clear h8 H7 z1 hu9 fu9 v1 K5
   go_wp2_with fail
   generalize w7.setCell ⟨kb, 11, none⟩ (.int .i64 (st : Nat)) = w8 at *
   go_region_held3 (fun W => W.cell? ⟨w.heap.size, 0, none⟩ = some (.pointer (some ⟨kb, 0, none⟩))) (first | assumption | go_keep | (simp [nk1, nk2]; assumption)) (first | (go_at_call 102; refine HK5.out.mono ?_; rintro e w9 ⟨⟨xa, xn, xc⟩, rfl, ho9, h9, hf9⟩; have H9 := Lib.hid h9; have HO9 := Lib.hid ho9; have z1 := (HBx.out _ _ _ h9).c1; obtain ⟨⟨u9, hu9⟩, fu9⟩ := HCe.out _ _ _ 8 (by decide) h9; simp only [show (1 + 8 : Nat) = 9 from rfl] at hu9 fu9; simp only [slE1] at HO9 ⊢; clear h9 ho9 hf9 H8 HK5))
  all_goals
   have h10 := H9.out.setIm (i := 8) (by decide) (.slice xa xn xc)
   have ho10 := HO9.out.fd (H9.out.fdSet (1 + 8) (.slice xa xn xc))
   simp only [show (1 + 8 : Nat) = 9 from rfl] at h10 ho10
   have H10 := Lib.hid (h10.since HF3.out)
   have HO10 := Lib.hid ho10
   clear h10 ho10 H9 HO9
   go_wp2_with fail
   go_end0
   exact ⟨rfl, _, HO10.out, H10.out⟩
end
end Go.Proofs.YtnifefmfhjfbnaaGreatDoor
