import Derived.Test.YtmfkggngjeolcaaGreatDoorPk19
set_option linter.unusedSimpArgs false
set_option linter.unusedVariables false
set_option maxHeartbeats 4000000
set_option maxRecDepth 100000
namespace Go.Proofs.YtmfkggngjeolcaaGreatDoor
open Go.RowKit Bn Dc
namespace Dc
structure BusR where
 rams : List Rg
 devs : List Rg
def busD (q : Pt) (s : D) : BusR × D :=
 let a := takeD q 2 s
 let b := takeD q 2 a.2
 let c := listD (spanD q) a.1 (zerosD q 4 b.2)
 let d := listD (spanD q) b.1 c.2
 (⟨c.1, d.1⟩, d.2)
def portsD (q : Pt) (m : Nat) (s : D) : List Int × D :=
 let a := takeD q 2 s
 listD (portD q) a.1 (zerosD q 6 (formD q (decide (a.1 = m)) 0 a.2))
def tabsD (q : Pt) (s : D) : List (Nat → Nat) × D := listD (tabD q) ((q.Z.length - s.pos) / 4096) s
end Dc
section
variable {B kb : Nat} {raw : Value} {im en : List Value} {q : Pt} {p g : Nat} {w0 : World} {s : D} {w w' : World}
theorem lspanX (h : Dt B kb raw im en q p g w0 s w) {n : Nat} (hn : n ≤ 65535) : Calls Tryz.prog 143 #[.pointer (some ⟨kb, 0, none⟩), .int .i64 (n : Int), (.func (.func 144) #[.pointer (some ⟨kb, 0, none⟩)] #[])] w fun e w' => ∃ x, e = .returned (slE1 x) ∧ OwnG 64 2 rgE w' B (slE1 x) (listD (spanD q) n s).1 ∧ Dt B kb raw im en q p g w0 (listD (spanD q) n s).2 w' ∧ Fd B w w' :=
 (listRgX (R := fun _ x y => x = y) (fun _ _ _ _ h _ => h) (spanD q) (fun W t hW _ => (spanX hW).mono (fun e w' h => ⟨_, h.1, rfl, h.2⟩)) h.here (by omega)).mono (fun e w' ⟨v, xs, he, ho, ht, hd⟩ => by
  obtain ⟨a, c, hv, _⟩ := ho.form;exact ⟨⟨a, xs.length, c⟩, by rw [he, hv]; rfl, by rw [← slE1_of hv, ← ht.eq]; exact ho.low h.le, hd.since h.fr, hd.fr⟩)
theorem rdBusX (h : Dt B kb raw im en q p g w0 s w) : Calls Tryz.prog 114 #[.pointer (some ⟨kb, 0, none⟩)] w fun e w' => e = .returned (.tuple #[]) ∧ ∃ v1 x2, OwnG 64 2 rgE w' B v1 (busD q s).1.rams ∧ OwnG 64 2 rgE w' B (slE1 x2) (busD q s).1.devs ∧ Dt B kb raw ((im.set 1 v1).set 2 (slE1 x2)) en q p g w0 (busD q s).2 w' := by
 obtain ⟨n1, s1, e0⟩ : ∃ v t, takeD q 2 s = (v, t) := ⟨_, _, rfl⟩
 obtain ⟨n2, s2, e1⟩ : ∃ v t, takeD q 2 s1 = (v, t) := ⟨_, _, rfl⟩
 obtain ⟨s3, e2⟩ : ∃ t, zerosD q 4 s2 = t := ⟨_, rfl⟩
 obtain ⟨xs, s4, e3⟩ : ∃ v t, listD (spanD q) n1 s3 = (v, t) := ⟨_, _, rfl⟩
 obtain ⟨ys, s5, e4⟩ : ∃ v t, listD (spanD q) n2 s4 = (v, t) := ⟨_, _, rfl⟩
 have b0 : n1 ≤ 65535 := by have h9 := take_lt h.small 2 s; rw [e0] at h9; exact Nat.le_of_lt_succ h9
 have b1 : n2 ≤ 65535 := by have h9 := take_lt h.small 2 s1; rw [e1] at h9; exact Nat.le_of_lt_succ h9
 have HE : busD q s = (⟨xs, ys⟩, s5) := by simp only [busD, e0, e1, e2, e3, e4]
 rw [HE];clear HE;dsimp only;have H0 : Hid (Dt B kb raw im en q p g w0 s w) := h;have K0 : Hid (∀ W, Dt B kb raw im en q p g w0 s W → Calls Tryz.prog 141 #[.pointer (some ⟨kb, 0, none⟩)] W fun e w' => e = .returned (.int .i64 (n1 : Nat)) ∧ Dt B kb raw im en q p g w0 s1 w') := fun W hW => by have h9 := dhalfX hW; rw [e0] at h9; exact h9
 have K1 : Hid (∀ W, Dt B kb raw im en q p g w0 s1 W → Calls Tryz.prog 141 #[.pointer (some ⟨kb, 0, none⟩)] W fun e w' => e = .returned (.int .i64 (n2 : Nat)) ∧ Dt B kb raw im en q p g w0 s2 w') := fun W hW => by have h9 := dhalfX hW; rw [e1] at h9; exact h9
 have K2 : Hid (∀ W, Dt B kb raw im en q p g w0 s2 W → Calls Tryz.prog 142 #[.pointer (some ⟨kb, 0, none⟩), .int .i64 4] W fun e w' => e = .returned (.tuple #[]) ∧ Dt B kb raw im en q p g w0 s3 w') := fun W hW => by have h9 := dzerosX hW (n := 4) (by decide); rw [e2] at h9; exact h9
 have K3 : Hid (∀ W, Dt B kb raw im en q p g w0 s3 W → Calls Tryz.prog 143 #[.pointer (some ⟨kb, 0, none⟩), .int .i64 (n1 : Int), (.func (.func 144) #[.pointer (some ⟨kb, 0, none⟩)] #[])] W fun e w' => ∃ x, e = .returned (slE1 x) ∧ OwnG 64 2 rgE w' B (slE1 x) xs ∧ Dt B kb raw im en q p g w0 s4 w' ∧ Fd B W w') := fun W hW => by have h9 := lspanX hW (n := n1) b0; rw [e3] at h9; exact h9
 have K4 : Hid (∀ W im, Dt B kb raw im en q p g w0 s4 W → Calls Tryz.prog 143 #[.pointer (some ⟨kb, 0, none⟩), .int .i64 (n2 : Int), (.func (.func 144) #[.pointer (some ⟨kb, 0, none⟩)] #[])] W fun e w' => ∃ x, e = .returned (slE1 x) ∧ OwnG 64 2 rgE w' B (slE1 x) ys ∧ Dt B kb raw im en q p g w0 s5 w' ∧ Fd B W w') := fun W im hW => by have h9 := lspanX hW (n := n2) b1; rw [e4] at h9; exact h9
 clear h e0 e1 e2 e3 e4;go_enter Tryz.func114, Tryz.ntmps114
 go_wp2_with fail
 refine (K0.out _ H0.out).mono ?_;rintro e w1 ⟨rfl, h1⟩;have HK1 := Lib.hid (K1.out _ h1);clear h1 H0 K0 K1;go_wp2_with fail
 refine HK1.out.mono ?_;rintro e w2 ⟨rfl, h2⟩;have HK2 := Lib.hid (K2.out _ h2);clear h2 HK1 K2;go_wp2_with fail
 refine HK2.out.mono ?_;rintro e w3 ⟨rfl, h3⟩;have HK3 := Lib.hid (K3.out _ h3);clear h3 HK2 K3;go_wp2_with fail
 refine HK3.out.mono ?_;rintro e w4 ⟨⟨xa, xn, xc⟩, rfl, ho, h4, _⟩;obtain ⟨u, hu⟩ := h4.cIm (i := 1) (by decide);have fu := h4.free 2;have HO5 : Hid (OwnG 64 2 rgE (w4.setCell ⟨kb, 1 + 1, none⟩ (slE1 ⟨xa, xn, xc⟩)) B (slE1 ⟨xa, xn, xc⟩) xs) := ho.fd (h4.fdSet _ _) (by decide) (by decide);have h5 := h4.setIm (i := 1) (by decide) (slE1 ⟨xa, xn, xc⟩);have HK4 := Lib.hid (K4.out _ _ h5);simp only [slE1, show (1 + 1 : Nat) = 2 from rfl] at HO5 HK4 hu ⊢;clear ho h4 h5 HK3 K4;go_wp2_with fail
 refine HK4.out.mono ?_;rintro e w6 ⟨⟨ya, yn, yc⟩, rfl, ho6, h6, hf6⟩;obtain ⟨u2, hu2⟩ := h6.cIm (i := 2) (by decide);have fu2 := h6.free 3;have HO7 : Hid (OwnG 64 2 rgE (w6.setCell ⟨kb, 1 + 2, none⟩ (slE1 ⟨ya, yn, yc⟩)) B (.slice xa xn xc) xs) := (HO5.out.fd hf6 (by decide) (by decide)).fd (h6.fdSet _ _) (by decide) (by decide);have HP7 : Hid (OwnG 64 2 rgE (w6.setCell ⟨kb, 1 + 2, none⟩ (slE1 ⟨ya, yn, yc⟩)) B (slE1 ⟨ya, yn, yc⟩) ys) := ho6.fd (h6.fdSet _ _) (by decide) (by decide);have H7 := Lib.hid (h6.setIm (i := 2) (by decide) (slE1 ⟨ya, yn, yc⟩));simp only [show (1 + 2 : Nat) = 3 from rfl] at HO7 HP7 H7 hu2;simp only [slE1] at HO7 ⊢;clear ho6 h6 hf6 HK4 HO5;go_wp2_with fail
 go_end0
 exact ⟨rfl, _, ⟨ya, yn, yc⟩, HO7.out, HP7.out, H7.out⟩
theorem rdPortsX (h : Dt B kb raw im en q p g w0 s w) {da : Option Addr} {m dc : Nat} (hd : im[2]? = some (.slice da m dc)) : Calls Tryz.prog 116 #[.pointer (some ⟨kb, 0, none⟩)] w fun e w' => e = .returned (.tuple #[]) ∧ SecP 68 1 poE 4 B kb raw im en q p g w0 (portsD q m s).1 (portsD q m s).2 w' := by
 obtain ⟨n, s1, e0⟩ : ∃ v t, takeD q 2 s = (v, t) := ⟨_, _, rfl⟩
 obtain ⟨s2, e1⟩ : ∃ t, formD q (decide (n = m)) 0 s1 = t := ⟨_, rfl⟩
 obtain ⟨s3, e2⟩ : ∃ t, zerosD q 6 s2 = t := ⟨_, rfl⟩
 obtain ⟨ys, s4, e3⟩ : ∃ v t, listD (portD q) n s3 = (v, t) := ⟨_, _, rfl⟩
 have b0 : n ≤ 65535 := by have h9 := take_lt h.small 2 s; rw [e0] at h9; exact Nat.le_of_lt_succ h9
 have HE : portsD q m s = (ys, s4) := by simp only [portsD, e0, e1, e2, e3]
 rw [HE];clear HE;dsimp only;have H0 : Hid (Dt B kb raw im en q p g w0 s w) := h;have HC3 : Hid (∀ W t, Dt B kb raw im en q p g w0 t W → W.cell? ⟨kb, 3, none⟩ = some (.slice da m dc)) := fun W t hW => (hW.cell 3).trans ((rdC_im (i := 2) hW.him (by decide)).trans hd);have K0 : Hid (∀ W, Dt B kb raw im en q p g w0 s W → Calls Tryz.prog 141 #[.pointer (some ⟨kb, 0, none⟩)] W fun e w' => e = .returned (.int .i64 (n : Nat)) ∧ Dt B kb raw im en q p g w0 s1 w') := fun W hW => by have h9 := dhalfX hW; rw [e0] at h9; exact h9
 have K1 : Hid (∀ W, Dt B kb raw im en q p g w0 s1 W → Calls Tryz.prog 123 #[.pointer (some ⟨kb, 0, none⟩), .bool (decide (n = m)), .int .i64 0] W fun e w' => e = .returned (.tuple #[]) ∧ Dt B kb raw im en q p g w0 s2 w') := fun W hW => by have h9 := dformX hW (decide (n = m)) (a := 0) (by decide); rw [e1] at h9; exact h9
 have K2 : Hid (∀ W, Dt B kb raw im en q p g w0 s2 W → Calls Tryz.prog 142 #[.pointer (some ⟨kb, 0, none⟩), .int .i64 6] W fun e w' => e = .returned (.tuple #[]) ∧ Dt B kb raw im en q p g w0 s3 w') := fun W hW => by have h9 := dzerosX hW (n := 6) (by decide); rw [e2] at h9; exact h9
 have K3 : Hid (∀ W, Dt B kb raw im en q p g w0 s3 W → Calls Tryz.prog 148 #[.pointer (some ⟨kb, 0, none⟩), .int .i64 (n : Int), (.func (.func 149) #[.pointer (some ⟨kb, 0, none⟩)] #[])] W fun e w' => ∃ x, e = .returned (slE1 x) ∧ OwnG 68 1 poE w' B (slE1 x) ys ∧ Dt B kb raw im en q p g w0 s4 w') := fun W hW => (listPoX (R := fun _ x y => x = y) (fun _ _ _ _ h _ => h) (portD q) (fun W t hW _ => (portX hW).mono (fun e w' h => ⟨_, h.1, rfl, h.2⟩)) hW.here (n := n) (by omega)).mono (fun e w' ⟨v, xs, he, ho, ht, hd⟩ => by
  obtain ⟨a, c, hv, _⟩ := ho.form;rw [e3] at ht hd;have e9 : xs = ys := ht.eq;exact ⟨⟨a, xs.length, c⟩, by rw [he, hv]; rfl, by rw [← slE1_of hv, ← e9]; exact ho.low hW.le, hd.since hW.fr⟩)
 clear h e0 e1 e2 e3 hd;have key : ∀ b, b = decide (n = m) → (decide ((n : Int) = (m : Int))) = b := fun b hb => by rw [hb]; by_cases h : n = m <;> simp [h] <;> omega
 have HKy := Lib.hid key;clear key;generalize hbb : decide (n = m) = b at K1;have hb2 := HKy.out b hbb.symm;have hb3 : ((n : Int) == (m : Int)) = b := hb2;clear hbb HKy b0;go_enter Tryz.func116, Tryz.ntmps116
 go_wp2_with fail
 refine (K0.out _ H0.out).mono ?_;rintro e w1 ⟨rfl, h1⟩;have HK1 := Lib.hid (K1.out _ h1);have c3 := HC3.out _ _ h1;clear h1 H0 K0 K1;go_wp2_with fail
 refine HK1.out.mono ?_;rintro e w2 ⟨rfl, h2⟩;have HK2 := Lib.hid (K2.out _ h2);clear h2 HK1 K2 c3;go_wp2_with fail
 refine HK2.out.mono ?_;rintro e w3 ⟨rfl, h3⟩;have HK3 := Lib.hid (K3.out _ h3);clear h3 HK2 K3;go_wp2_with fail
 refine HK3.out.mono ?_;rintro e w4 ⟨⟨xa, xn, xc⟩, rfl, ho, h4⟩;obtain ⟨u, hu⟩ := h4.cIm (i := 4) (by decide);have fu := h4.free 5;have H5 : Hid (SecP 68 1 poE 4 B kb raw im en q p g w0 ys s4 (w4.setCell ⟨kb, 1 + 4, none⟩ (slE1 ⟨xa, xn, xc⟩))) := ⟨_, ho.fd (h4.fdSet _ _) (by decide) (by decide), h4.setIm (by decide) _⟩
 simp only [slE1, show (1 + 4 : Nat) = 5 from rfl] at H5 hu ⊢;clear ho h4 HK3;go_wp2_with fail
 go_end0
 exact ⟨rfl, H5.out⟩
theorem rdTabsX (h : Dt B kb raw im en q p g w0 s w) (hz : q.Z.length ≤ 4194304000) : Calls Tryz.prog 121 #[.pointer (some ⟨kb, 0, none⟩)] w fun e w' => e = .returned (.tuple #[]) ∧ SecP 80 512 tbE 11 B kb raw im en q p g w0 (tabsD q s).1 (tabsD q s).2 w' := by
 have c59 := h.c59;have HA : Hid (Calls Tryz.prog 161 #[.pointer (some ⟨p, 0, none⟩)] w fun e w' => e = .returned (.int .i64 ((q.Z.length - s.pos : Nat) : Int)) ∧ Dt B kb raw im en q p g w0 s w') := (rleft_any h.rd).mono (fun e w' h9 => ⟨h9.1, h.below h9.2.2⟩);unfold tabsD;have hl : q.Z.length - s.pos ≤ 4194304000 := by omega
 clear hz;generalize q.Z.length - s.pos = l at *;obtain ⟨n, hn⟩ : ∃ n, l / 4096 = n := ⟨_, rfl⟩
 have hn2 : n ≤ 1024000 := by omega
 have hq : (l : Int).tdiv 4096 = (n : Int) := by rw [← hn]; rfl
 have hq2 : IntKind.i64.wrap (n : Int) = (n : Int) := by rw [IntKind.wrap_i64]; omega
 rw [hn];have HL : Hid (∀ W, Dt B kb raw im en q p g w0 s W → Calls Tryz.prog 160 #[.pointer (some ⟨kb, 0, none⟩), .int .i64 (n : Int), (.func (.func 162) #[.pointer (some ⟨kb, 0, none⟩)] #[])] W fun e w' => ∃ x, e = .returned (slE1 x) ∧ OwnG 80 512 tbE w' B (slE1 x) (listD (tabD q) n s).1 ∧ Dt B kb raw im en q p g w0 (listD (tabD q) n s).2 w') := fun W hW => (listTbX (R := fun _ x y => x = y) (fun _ _ _ _ h _ => h) (tabD q) (fun W t hW _ => dtableX hW) hW.here (by omega)).mono (fun e w' ⟨v, xs, he, ho, ht, hd⟩ => by
  obtain ⟨a, c, hv, _⟩ := ho.form;exact ⟨⟨a, xs.length, c⟩, by rw [he, hv]; rfl, by rw [← slE1_of hv, ← ht.eq]; exact ho.low hW.le, hd.since hW.fr⟩)
 generalize (listD (tabD q) n s).1 = ys at *;generalize (listD (tabD q) n s).2 = t2 at *;clear h hn;go_enter Tryz.func121, Tryz.ntmps121
 go_wp2_with fail
 refine HA.out.mono ?_;rintro e w1 ⟨rfl, h1⟩;have HL1 := Lib.hid (HL.out _ h1);clear h1 HA HL c59;go_wp2_with fail
 refine HL1.out.mono ?_;rintro e w2 ⟨⟨xa, xn, xc⟩, rfl, ho, h2⟩;obtain ⟨u, hu⟩ := h2.cIm (i := 11) (by decide);have fu := h2.free 12;have H3 : Hid (SecP 80 512 tbE 11 B kb raw im en q p g w0 ys t2 (w2.setCell ⟨kb, 1 + 11, none⟩ (slE1 ⟨xa, xn, xc⟩))) := ⟨_, ho.fd (h2.fdSet _ _) (by decide) (by decide), h2.setIm (by decide) _⟩
 simp only [slE1, show (1 + 11 : Nat) = 12 from rfl] at H3 hu ⊢;clear ho h2 HL1;go_wp2_with fail
 go_end0
 exact ⟨rfl, H3.out⟩
end
end Go.Proofs.YtmfkggngjeolcaaGreatDoor
namespace Go.Proofs.YtmfkggngjeolcaaGreatDoor
open Go.RowKit Bn Dc
namespace Dc
structure PlR where
 plans : List Sc
 master : Int
 start : Nat
def plansD (q : Pt) (s : D) : PlR × D :=
 let a := takeD q 2 s
 let b := takeD q 2 a.2
 let c := noneD q (formD q (decide (0 < a.1) || decide (b.1 = 0)) a.2.pos b.2)
 let d := takeD q 2 c.2
 let e := listD (planD q b.1) a.1 d.2
 (⟨e.1, c.1, d.1⟩, e.2)
end Dc
def PlO (Z : Nat) (W : World) (v : Value) (ps : List Sc) : Prop := ∃ us : List (Int × SlV), OwnG 78 2 scE W Z v us ∧ T2 (ScO Z W) us ps
section
variable {B kb : Nat} {raw : Value} {im en : List Value} {q : Pt} {p g : Nat} {w0 : World} {s : D} {w w' : World}
theorem PlO.fd {Z : Nat} {v : Value} {ps : List Sc} (h : PlO Z w v ps) (hf : Fd B w w') : PlO Z w' v ps := by
 obtain ⟨us, ho, ht⟩ := h;exact ⟨us, ho.fd hf (by decide) (by decide), ht.imp (fun x y h => ⟨h.1, h.2.rz (hf.rz 78) (by decide) (by decide)⟩)⟩
theorem lplanX {b1 b2 N : Nat} (h : Dt B kb raw im en q p g w0 s w) (hb : Bx2 kb b1 b2 N w) (hN : N ≤ 65535) {n : Nat} (hn : n ≤ 65535) : Calls Tryz.prog 156 #[.pointer (some ⟨kb, 0, none⟩), .int .i64 (n : Int), (.func (.func 157) #[] #[.pointer (some ⟨b1, 0, none⟩), .pointer (some ⟨b2, 0, none⟩)])] w fun e w' => ∃ x, e = .returned (slE1 x) ∧ PlO B w' (slE1 x) (listD (planD q N) n s).1 ∧ Dt B kb raw im en q p g w0 (listD (planD q N) n s).2 w' ∧ Fd B w w' :=
 (listScX (R := ScO B) (fun _ _ _ _ h hz => ⟨h.1, h.2.rz hz (by decide) (by decide)⟩) (planD q N) (fun W t hW hf => dplanX hW (hb.fd hf) hN) h.here (by omega)).mono (fun e w' ⟨v, xs, he, ho, ht, hd⟩ => by
  obtain ⟨a, c, hv, _⟩ := ho.form;exact ⟨⟨a, xs.length, c⟩, by rw [he, hv]; rfl, ⟨xs, by rw [← slE1_of hv]; exact ho.low h.le, ht⟩, hd.since h.fr, hd.fr⟩)
theorem rdPlansX (h : Dt B kb raw im en q p g w0 s w) : Calls Tryz.prog 120 #[.pointer (some ⟨kb, 0, none⟩)] w fun e w' => e = .returned (.tuple #[]) ∧ ∃ v, PlO B w' v (plansD q s).1.plans ∧ Dt B kb raw (((im.set 9 (.int .i64 (plansD q s).1.master)).set 10 (.int .i64 ((plansD q s).1.start : Nat))).set 8 v) en q p g w0 (plansD q s).2 w' := by
 obtain ⟨h1, hf1, hb1, hl1⟩ := h.boxed (.cells ([.pointer (some ⟨kb, 0, none⟩)] : List Value).toArray 141);have HF := Lib.hid hf1;have nk1 : ¬ kb = w.heap.size := by have := h.lt; omega
 have nk2 : ¬ w.heap.size = kb := by have := h.lt; omega
 have HB1 : Hid (∀ W t im, Dt B kb raw im en q p g (w.alloc (.cells ([.pointer (some ⟨kb, 0, none⟩)] : List Value).toArray 141)) t W → W.heap[w.heap.size]? = some (.cells ([.pointer (some ⟨kb, 0, none⟩)] : List Value).toArray 141 (0, 0))) := fun W t im hW => hW.box hb1 (by decide) (by decide);have HBc : Hid (∀ W t im, Dt B kb raw im en q p g (w.alloc (.cells ([.pointer (some ⟨kb, 0, none⟩)] : List Value).toArray 141)) t W → W.cell? ⟨w.heap.size, 0, none⟩ = some (.pointer (some ⟨kb, 0, none⟩))) := fun W t im hW => box_cell (HB1.out _ _ _ hW) 0;have H0 : Hid (Dt B kb raw im en q p g (w.alloc (.cells ([.pointer (some ⟨kb, 0, none⟩)] : List Value).toArray 141)) s (w.alloc (.cells ([.pointer (some ⟨kb, 0, none⟩)] : List Value).toArray 141))) := h1;obtain ⟨n, s1, e0⟩ : ∃ v t, takeD q 2 s = (v, t) := ⟨_, _, rfl⟩
 obtain ⟨N, s2, e1⟩ : ∃ v t, takeD q 2 s1 = (v, t) := ⟨_, _, rfl⟩
 obtain ⟨bb, hbb⟩ : ∃ b, (decide (0 < n) || decide (N = 0)) = b := ⟨_, rfl⟩
 obtain ⟨s3, e2⟩ : ∃ t, formD q bb s1.pos s2 = t := ⟨_, rfl⟩
 obtain ⟨ms, s4, e3⟩ : ∃ v t, noneD q s3 = (v, t) := ⟨_, _, rfl⟩
 obtain ⟨st, s5, e4⟩ : ∃ v t, takeD q 2 s4 = (v, t) := ⟨_, _, rfl⟩
 obtain ⟨ys, s6, e5⟩ : ∃ v t, listD (planD q N) n s5 = (v, t) := ⟨_, _, rfl⟩
 have b0 : n ≤ 65535 := by have h9 := take_lt h.small 2 s; rw [e0] at h9; exact Nat.le_of_lt_succ h9
 have b1 : N ≤ 65535 := by have h9 := take_lt h.small 2 s1; rw [e1] at h9; exact Nat.le_of_lt_succ h9
 have HE : plansD q s = (⟨ys, ms, st⟩, s6) := by simp only [plansD, e0, e1, hbb, e2, e3, e4, e5]
 rw [HE];clear HE;dsimp only;have hps : s1.pos ≤ 1099511627776 := by
  have h8 := h.rd.2.2.2.1;have h9 := take_pos_le (q := q) h8 2;rw [e0] at h9;have := h.hlen;dsimp only at h9;omega
 have K0 : Hid (∀ W w9, Dt B kb raw im en q p g w9 s W → Calls Tryz.prog 141 #[.pointer (some ⟨kb, 0, none⟩)] W fun e w' => e = .returned (.int .i64 (n : Nat)) ∧ Dt B kb raw im en q p g w9 s1 w') := fun W w9 hW => by have h9 := dhalfX hW; rw [e0] at h9; exact h9
 have KA : Hid (∀ W w9, Dt B kb raw im en q p g w9 s1 W → Calls Tryz.prog 125 #[.pointer (some ⟨p, 0, none⟩)] W fun e w' => e = .returned (.int .i64 (s1.pos : Int)) ∧ w' = W) := fun W w9 hW => rat_any hW.rd;have K1 : Hid (∀ W w9, Dt B kb raw im en q p g w9 s1 W → Calls Tryz.prog 141 #[.pointer (some ⟨kb, 0, none⟩)] W fun e w' => e = .returned (.int .i64 (N : Nat)) ∧ Dt B kb raw im en q p g w9 s2 w') := fun W w9 hW => by have h9 := dhalfX hW; rw [e1] at h9; exact h9
 have K2 : Hid (∀ W w9, Dt B kb raw im en q p g w9 s2 W → Calls Tryz.prog 123 #[.pointer (some ⟨kb, 0, none⟩), .bool bb, .int .i64 (s1.pos : Int)] W fun e w' => e = .returned (.tuple #[]) ∧ Dt B kb raw im en q p g w9 s3 w') := fun W w9 hW => by have h9 := dformX hW bb hps; rw [e2] at h9; exact h9
 have K3 : Hid (∀ W w9 im, Dt B kb raw im en q p g w9 s3 W → Calls Tryz.prog 155 #[.pointer (some ⟨kb, 0, none⟩)] W fun e w' => e = .returned (.int .i64 ms) ∧ Dt B kb raw im en q p g w9 s4 w') := fun W w9 im hW => by have h9 := dnoneX hW; rw [e3] at h9; exact h9
 have K4 : Hid (∀ W w9 im, Dt B kb raw im en q p g w9 s4 W → Calls Tryz.prog 141 #[.pointer (some ⟨kb, 0, none⟩)] W fun e w' => e = .returned (.int .i64 (st : Nat)) ∧ Dt B kb raw im en q p g w9 s5 w') := fun W w9 im hW => by have h9 := dhalfX hW; rw [e4] at h9; exact h9
 have K5 : Hid (∀ W w9 im b1 b2, Dt B kb raw im en q p g w9 s5 W → Bx2 kb b1 b2 N W → Calls Tryz.prog 156 #[.pointer (some ⟨kb, 0, none⟩), .int .i64 (n : Int), (.func (.func 157) #[] #[.pointer (some ⟨b1, 0, none⟩), .pointer (some ⟨b2, 0, none⟩)])] W fun e w' => ∃ x, e = .returned (slE1 x) ∧ PlO B w' (slE1 x) ys ∧ Dt B kb raw im en q p g w9 s6 w' ∧ Fd B W w') := fun W w9 im b1 b2 hW hb => by have h9 := lplanX hW hb (by assumption) (n := n) b0; rw [e5] at h9; exact h9
 have HBB := Lib.hid hbb;clear h h1 hf1 hb1 hl1 e0 e1 e2 e3 e4 e5 hbb hps;have c1 := HBc.out _ _ _ H0.out;go_enter Tryz.func120, Tryz.ntmps120
 go_wp2_with fail
 refine (K0.out _ _ H0.out).mono ?_;rintro e w1 ⟨rfl, h1⟩;have H1 := Lib.hid h1;have c1' := HBc.out _ _ _ h1;have c59 := h1.c59;clear h1 c1 H0 K0;go_wp2_with fail
 refine (KA.out _ _ H1.out).mono ?_;rintro e w1' ⟨rfl, h1'⟩;subst h1';go_wp2_with fail
 refine (K1.out _ _ H1.out).mono ?_;rintro e w2 ⟨rfl, h2⟩;obtain ⟨h3, hf3, hb3, hl3⟩ := h2.boxed (.cells ([.int .i64 (N : Int)] : List Value).toArray 3);have hr3 := (hl3.block w.heap.size (Array.getElem?_eq_some_iff.1 (HB1.out _ _ _ h2)).1).trans (HB1.out _ _ _ h2);have nm : ¬ kb = w2.heap.size := by have := h2.lt; omega
 have HBx : Hid (∀ W t im, Dt B kb raw im en q p g (w2.alloc (.cells ([.int .i64 (N : Int)] : List Value).toArray 3)) t W → Bx2 kb w.heap.size w2.heap.size N W) := fun W t im hW => ⟨hW.box hr3 (by decide) (by decide), hW.box hb3 (by decide) (by decide)⟩
 have HF3 : Hid (Fd B w0 (w2.alloc (.cells ([.int .i64 (N : Int)] : List Value).toArray 3))) := HF.out.trans hf3;have H3 := Lib.hid h3;have x1 := (HBx.out _ _ _ h3).c1;have x2 := (HBx.out _ _ _ h3).c2;clear h2 h3 hf3 hb3 hl3 hr3 H1 K1 KA c1' c59 HB1 HBc HF;have hbi : n = 0 ∨ 0 < n := by omega
 rcases hbi with hn0 | hn0
 ·subst hn0;have hN : ((N : Int) == 0) = bb := by
   rw [← HBB.out]
   by_cases h : N = 0 <;> simp [h]
  have hN2 : decide ((N : Int) = 0) = bb := hN;go_wp2_with fail
  refine (K2.out _ _ H3.out).mono ?_;rintro e w4 ⟨rfl, h4⟩;have H4 := Lib.hid h4.drew;have y1 := (HBx.out _ _ _ h4.drew).c1;have HCe : Hid (∀ W t im i, i < 12 → Dt B kb raw im en q p g (w2.alloc (.cells ([.int .i64 (N : Int)] : List Value).toArray 3)) t W → (∃ u, W.cell? ⟨kb, 1 + i, none⟩ = some u) ∧ W.frozen? ⟨kb, 1 + i, none⟩ = false) := fun W t im i hi hW => ⟨hW.cIm hi, hW.free _⟩
  clear h4 H3 K2 x1 x2;go_wp2_with fail
  go_region_held3 (fun W => W.cell? ⟨w.heap.size, 0, none⟩ = some (.pointer (some ⟨kb, 0, none⟩))) (first | assumption | go_keep | (simp [nk1, nk2]; assumption)) (first | (go_at_call 155; refine (K3.out _ _ _ H4.out).mono ?_; rintro e w5 ⟨rfl, h5⟩; have H5 := Lib.hid h5; have z1 := (HBx.out _ _ _ h5).c1; obtain ⟨⟨u9, hu9⟩, fu9⟩ := HCe.out _ _ _ 9 (by decide) h5; simp only [show (1 + 9 : Nat) = 10 from rfl] at hu9 fu9; clear h5 H4 K3))
  all_goals
   have h6 := H5.out.setIm (i := 9) (by decide) (.int .i64 ms);simp only [show (1 + 9 : Nat) = 10 from rfl] at h6;have H6 := Lib.hid h6.drew;have v1 := (HBx.out _ _ _ h6.drew).c1;clear h6 H5 z1 hu9 fu9 y1;go_wp2_with fail
   generalize w5.setCell ⟨kb, 10, none⟩ (.int .i64 ms) = w6 at *;go_region_held3 (fun W => W.cell? ⟨w.heap.size, 0, none⟩ = some (.pointer (some ⟨kb, 0, none⟩))) (first | assumption | go_keep | (simp [nk1, nk2]; assumption)) (first | (go_at_call 141; refine (K4.out _ _ _ H6.out).mono ?_; rintro e w7 ⟨rfl, h7⟩; have H7 := Lib.hid h7; have z1 := (HBx.out _ _ _ h7).c1; obtain ⟨⟨u9, hu9⟩, fu9⟩ := HCe.out _ _ _ 10 (by decide) h7; simp only [show (1 + 10 : Nat) = 11 from rfl] at hu9 fu9; clear h7 H6 K4))
  all_goals
   have h8 := H7.out.setIm (i := 10) (by decide) (.int .i64 (st : Nat));simp only [show (1 + 10 : Nat) = 11 from rfl] at h8;have H8 := Lib.hid h8.drew;have HK5 := Lib.hid (K5.out _ _ _ _ _ h8.drew (HBx.out _ _ _ h8.drew));have v2 := (HBx.out _ _ _ h8.drew).c1;simp only [show ((0 : Nat) : Int) = 0 from rfl] at HK5;clear h8 H7 z1 hu9 fu9 v1 K5;go_wp2_with fail
   generalize w7.setCell ⟨kb, 11, none⟩ (.int .i64 (st : Nat)) = w8 at *;go_region_held3 (fun W => W.cell? ⟨w.heap.size, 0, none⟩ = some (.pointer (some ⟨kb, 0, none⟩))) (first | assumption | go_keep | (simp [nk1, nk2]; assumption)) (first | (go_at_call 156; refine HK5.out.mono ?_; rintro e w9 ⟨⟨xa, xn, xc⟩, rfl, ho9, h9, hf9⟩; have H9 := Lib.hid h9; have HO9 := Lib.hid ho9; have z1 := (HBx.out _ _ _ h9).c1; obtain ⟨⟨u9, hu9⟩, fu9⟩ := HCe.out _ _ _ 8 (by decide) h9; simp only [show (1 + 8 : Nat) = 9 from rfl] at hu9 fu9; simp only [slE1] at HO9 ⊢; clear h9 ho9 hf9 H8 HK5))
  all_goals
   have h10 := H9.out.setIm (i := 8) (by decide) (.slice xa xn xc);have ho10 := HO9.out.fd (H9.out.fdSet (1 + 8) (.slice xa xn xc));simp only [show (1 + 8 : Nat) = 9 from rfl] at h10 ho10;have H10 := Lib.hid (h10.since HF3.out);have HO10 := Lib.hid ho10;clear h10 ho10 H9 HO9;go_wp2_with fail
   go_end0
   exact ⟨rfl, _, HO10.out, H10.out⟩
 ·have gi : (0 : Int) < (n : Int) := by omega
  obtain rfl : bb = true := by rw [← HBB.out]; simp [hn0]
  clear hn0;go_wp2_with fail
  refine (K2.out _ _ H3.out).mono ?_;rintro e w4 ⟨rfl, h4⟩;have H4 := Lib.hid h4.drew;have y1 := (HBx.out _ _ _ h4.drew).c1;have HCe : Hid (∀ W t im i, i < 12 → Dt B kb raw im en q p g (w2.alloc (.cells ([.int .i64 (N : Int)] : List Value).toArray 3)) t W → (∃ u, W.cell? ⟨kb, 1 + i, none⟩ = some u) ∧ W.frozen? ⟨kb, 1 + i, none⟩ = false) := fun W t im i hi hW => ⟨hW.cIm hi, hW.free _⟩
  clear h4 H3 K2 x1 x2;go_wp2_with fail
  go_region_held3 (fun W => W.cell? ⟨w.heap.size, 0, none⟩ = some (.pointer (some ⟨kb, 0, none⟩))) (first | assumption | go_keep | (simp [nk1, nk2]; assumption)) (first | (go_at_call 155; refine (K3.out _ _ _ H4.out).mono ?_; rintro e w5 ⟨rfl, h5⟩; have H5 := Lib.hid h5; have z1 := (HBx.out _ _ _ h5).c1; obtain ⟨⟨u9, hu9⟩, fu9⟩ := HCe.out _ _ _ 9 (by decide) h5; simp only [show (1 + 9 : Nat) = 10 from rfl] at hu9 fu9; clear h5 H4 K3))
  all_goals
   have h6 := H5.out.setIm (i := 9) (by decide) (.int .i64 ms);simp only [show (1 + 9 : Nat) = 10 from rfl] at h6;have H6 := Lib.hid h6.drew;have v1 := (HBx.out _ _ _ h6.drew).c1;clear h6 H5 z1 hu9 fu9 y1;go_wp2_with fail
   generalize w5.setCell ⟨kb, 10, none⟩ (.int .i64 ms) = w6 at *;go_region_held3 (fun W => W.cell? ⟨w.heap.size, 0, none⟩ = some (.pointer (some ⟨kb, 0, none⟩))) (first | assumption | go_keep | (simp [nk1, nk2]; assumption)) (first | (go_at_call 141; refine (K4.out _ _ _ H6.out).mono ?_; rintro e w7 ⟨rfl, h7⟩; have H7 := Lib.hid h7; have z1 := (HBx.out _ _ _ h7).c1; obtain ⟨⟨u9, hu9⟩, fu9⟩ := HCe.out _ _ _ 10 (by decide) h7; simp only [show (1 + 10 : Nat) = 11 from rfl] at hu9 fu9; clear h7 H6 K4))
  all_goals
   have h8 := H7.out.setIm (i := 10) (by decide) (.int .i64 (st : Nat));simp only [show (1 + 10 : Nat) = 11 from rfl] at h8;have H8 := Lib.hid h8.drew;have HK5 := Lib.hid (K5.out _ _ _ _ _ h8.drew (HBx.out _ _ _ h8.drew));have v2 := (HBx.out _ _ _ h8.drew).c1;clear h8 H7 z1 hu9 fu9 v1 K5;go_wp2_with fail
   generalize w7.setCell ⟨kb, 11, none⟩ (.int .i64 (st : Nat)) = w8 at *;go_region_held3 (fun W => W.cell? ⟨w.heap.size, 0, none⟩ = some (.pointer (some ⟨kb, 0, none⟩))) (first | assumption | go_keep | (simp [nk1, nk2]; assumption)) (first | (go_at_call 156; refine HK5.out.mono ?_; rintro e w9 ⟨⟨xa, xn, xc⟩, rfl, ho9, h9, hf9⟩; have H9 := Lib.hid h9; have HO9 := Lib.hid ho9; have z1 := (HBx.out _ _ _ h9).c1; obtain ⟨⟨u9, hu9⟩, fu9⟩ := HCe.out _ _ _ 8 (by decide) h9; simp only [show (1 + 8 : Nat) = 9 from rfl] at hu9 fu9; simp only [slE1] at HO9 ⊢; clear h9 ho9 hf9 H8 HK5))
  all_goals
   have h10 := H9.out.setIm (i := 8) (by decide) (.slice xa xn xc);have ho10 := HO9.out.fd (H9.out.fdSet (1 + 8) (.slice xa xn xc));simp only [show (1 + 8 : Nat) = 9 from rfl] at h10 ho10;have H10 := Lib.hid (h10.since HF3.out);have HO10 := Lib.hid ho10;clear h10 ho10 H9 HO9;go_wp2_with fail
   go_end0
   exact ⟨rfl, _, HO10.out, H10.out⟩
end
end Go.Proofs.YtmfkggngjeolcaaGreatDoor
namespace Go.Proofs.YtmfkggngjeolcaaGreatDoor
open Go.RowKit Bn Dc
theorem ofO {k f l g o n cap : Nat} {c : Int} (hfl : f + l ≤ n) (hn : n ≤ cap) (hc : cap ≤ maxLen) (hz : f ≤ 1099511627776 ∧ l ≤ 1099511627776) (w : World) : Calls Tryz.prog 64 #[.agg (entA k f l c), .slice (some ⟨g, o, none⟩) n cap] w fun e w' => ∃ ad, e = .returned (.slice (some ⟨g, ad, none⟩) l (cap - f)) ∧ (ad = o + f ∨ l = 0) ∧ Below w.heap.size w w' := by
 have HB : Hid (Below w.heap.size w (w.alloc (.cells (entA k f l c) 88))) := (Below.refl _ _).alloc (Nat.le_refl _) _;have hcm : cap ≤ 9223372036854775807 := by unfold maxLen at hc; omega
 obtain ⟨hz1, hz2⟩ := hz;obtain ⟨W0, hW0⟩ : ∃ W0, w.alloc (.cells (entA k f l c) 88) = W0 := ⟨_, rfl⟩
 have hb : W0.heap[w.heap.size]? = some (.cells (entA k f l c) 88 (0, 0)) := hW0 ▸ heap_alloc_new w _;have HCell : Hid (∀ W, Below W0.heap.size W0 W → W.cell? ⟨w.heap.size, 0, none⟩ = some (.int .i64 (k : Int)) ∧ W.cell? ⟨w.heap.size, 1, none⟩ = some (.int .i64 0) ∧ W.cell? ⟨w.heap.size, 2, none⟩ = some (.int .i64 (f : Int)) ∧ W.cell? ⟨w.heap.size, 3, none⟩ = some (.int .i64 (l : Int)) ∧ W.cell? ⟨w.heap.size, 4, none⟩ = some (.int .u32 c)) := fun W hW => by
  have h2 := (hW.block w.heap.size (Array.getElem?_eq_some_iff.1 hb).1).trans hb;refine ⟨?_, ?_, ?_, ?_, ?_⟩ <;> (rw [cell_of_row _ _ _ _ _ _ h2]; rfl)
 rw [hW0] at HB;have HE : Hid (Calls Tryz.prog 104 #[.agg (entA k f l c)] W0.drew fun e w' => e = .returned (.int .i64 ((f + l : Nat) : Int)) ∧ (w'.cell? ⟨w.heap.size, 0, none⟩ = some (.int .i64 (k : Int)) ∧ w'.cell? ⟨w.heap.size, 1, none⟩ = some (.int .i64 0) ∧ w'.cell? ⟨w.heap.size, 2, none⟩ = some (.int .i64 (f : Int)) ∧ w'.cell? ⟨w.heap.size, 3, none⟩ = some (.int .i64 (l : Int)) ∧ w'.cell? ⟨w.heap.size, 4, none⟩ = some (.int .u32 c)) ∧ Hid (Below w.heap.size w w')) := (endX (by omega) (by omega) W0.drew).mono (fun e w' h => by
  have hb0 : Below W0.heap.size W0 W0.drew := ⟨rfl, rfl, rfl, Nat.le_refl _, fun _ _ => rfl⟩
  have hb2 : Below W0.heap.size W0 w' := hb0.trans h.2;exact ⟨h.1, HCell.out _ hb2, HB.out.trans (hb2.mono HB.out.size)⟩)
 have j1 : (f : Int) ≤ ((f + l : Nat) : Int) := by omega
 have j2 : ((f + l : Nat) : Int) ≤ (n : Int) := by omega
 have j3 : ((f + l : Nat) : Int) ≤ (cap : Int) := by omega
 have j4 : f + l ≤ cap := by omega
 have j5 : f + l - f = l := by omega
 have hS := HCell.out W0.drew ⟨rfl, rfl, rfl, Nat.le_refl _, fun _ _ => rfl⟩;obtain ⟨m, hm⟩ : ∃ m, f + l = m := ⟨_, rfl⟩
 rw [hm] at HE j1 j2 j3 j4 j5;have hm9 : m - f = l := j5
 by_cases hcf : cap - f = 0
 ·have hl0 : Hid (l = 0) := show _ = _ by omega
  unfold entA at *;go_enter Tryz.func64, Tryz.ntmps64
  go_wp2_with fail
  clear hW0 hb;go_region_held3 (fun w' => w'.cell? ⟨w.heap.size, 0, none⟩ = some (.int .i64 (k : Int)) ∧ w'.cell? ⟨w.heap.size, 1, none⟩ = some (.int .i64 0) ∧ w'.cell? ⟨w.heap.size, 2, none⟩ = some (.int .i64 (f : Int)) ∧ w'.cell? ⟨w.heap.size, 3, none⟩ = some (.int .i64 (l : Int)) ∧ w'.cell? ⟨w.heap.size, 4, none⟩ = some (.int .u32 c)) (go_keep) (first | (go_at_call 104; refine HE.out.mono ?_; rintro e w5 ⟨rfl, ⟨k0, k1, k2, k3, k4⟩, H5⟩))
  all_goals
   go_wp2_with fail
   go_ret
   exact ⟨o, by first | rfl | (rw [Nat.sub_self]; rfl) | (rw [hcf]; rfl), .inr hl0.out, H5.out⟩
 ·have hcf1 : 0 < cap - f := by omega
  unfold entA at *;go_enter Tryz.func64, Tryz.ntmps64
  go_wp2_with fail
  clear hW0 hb;go_region_held3 (fun w' => w'.cell? ⟨w.heap.size, 0, none⟩ = some (.int .i64 (k : Int)) ∧ w'.cell? ⟨w.heap.size, 1, none⟩ = some (.int .i64 0) ∧ w'.cell? ⟨w.heap.size, 2, none⟩ = some (.int .i64 (f : Int)) ∧ w'.cell? ⟨w.heap.size, 3, none⟩ = some (.int .i64 (l : Int)) ∧ w'.cell? ⟨w.heap.size, 4, none⟩ = some (.int .u32 c)) (go_keep) (first | (go_at_call 104; refine HE.out.mono ?_; rintro e w5 ⟨rfl, ⟨k0, k1, k2, k3, k4⟩, H5⟩))
  all_goals
   go_wp2_with fail
   go_ret
   exact ⟨o + f, by rw [← hm9]; rfl, .inl rfl, H5.out⟩
def entV (a b f l : Nat) (c : Nat) : List Value := [.int .i64 (a : Int), .int .i64 (b : Int), .int .i64 (f : Int), .int .i64 (l : Int), .int .u32 (c : Int)]
namespace Dc
structure En where
 a : Nat
 b : Nat
 f : Nat
 l : Nat
 c : Nat
def entD (q : Pt) (s : D) : En × D :=
 let a := takeD q 2 s
 let b := takeD q 2 a.2
 let c := takeD q 4 b.2
 let d := takeD q 4 c.2
 let e := takeD q 4 d.2
 (⟨a.1, b.1, c.1, d.1, e.1⟩, e.2)
end Dc
def enE (x : En) : List Value := entV x.a x.b x.f x.l x.c
section
variable {B kb : Nat} {raw : Value} {im en : List Value} {q : Pt} {p g : Nat} {w0 : World} {s : D} {w w' : World}
theorem readEntX (h : Dt B kb raw im en q p g w0 s w) : Calls Tryz.prog 138 #[.pointer (some ⟨p, 0, none⟩)] w fun e w' => e = .returned (.agg (enE (entD q s).1).toArray) ∧ Dt B kb raw im en q p g w0 (entD q s).2 w' := by
 obtain ⟨h1, hf1, hb1, hl1⟩ := h.boxed (.cells ([.int .i64 0, .int .i64 0, .int .i64 0, .int .i64 0, .int .u32 0] : List Value).toArray 88);have HF := Lib.hid hf1;have HS : Hid (w0.heap.size ≤ w.heap.size) := h.fr.size;have HB : Hid (∀ W t, Dt B kb raw im en q p g (w.alloc (.cells ([.int .i64 0, .int .i64 0, .int .i64 0, .int .i64 0, .int .u32 0] : List Value).toArray 88)) t W → W.heap[w.heap.size]? = some (.cells ([.int .i64 0, .int .i64 0, .int .i64 0, .int .i64 0, .int .u32 0] : List Value).toArray 88 (0, 0))) := fun W t hW => hW.box hb1 (by decide) (by decide);have H0 : Hid (Dt B kb raw im en q p g (w.alloc (.cells ([.int .i64 0, .int .i64 0, .int .i64 0, .int .i64 0, .int .u32 0] : List Value).toArray 88)) s (w.alloc (.cells ([.int .i64 0, .int .i64 0, .int .i64 0, .int .i64 0, .int .u32 0] : List Value).toArray 88))) := h1;obtain ⟨v0, s1, e0⟩ : ∃ v t, takeD q 2 s = (v, t) := ⟨_, _, rfl⟩
 obtain ⟨v1, s2, e1⟩ : ∃ v t, takeD q 2 s1 = (v, t) := ⟨_, _, rfl⟩
 obtain ⟨v2, s3, e2⟩ : ∃ v t, takeD q 4 s2 = (v, t) := ⟨_, _, rfl⟩
 obtain ⟨v3, s4, e3⟩ : ∃ v t, takeD q 4 s3 = (v, t) := ⟨_, _, rfl⟩
 obtain ⟨v4, s5, e4⟩ : ∃ v t, takeD q 4 s4 = (v, t) := ⟨_, _, rfl⟩
 have K0 : Hid (∀ W w9, Hid (Dt B kb raw im en q p g w9 s W) → Calls Tryz.prog 135 #[.pointer (some ⟨p, 0, none⟩)] W fun e w' => e = .returned (.int .u16 (v0 : Nat)) ∧ Dt B kb raw im en q p g w9 s1 w') := fun W w9 hW => by have h9 := tHalfX hW.out; rw [e0] at h9; exact h9
 have K1 : Hid (∀ W w9, Hid (Dt B kb raw im en q p g w9 s1 W) → Calls Tryz.prog 135 #[.pointer (some ⟨p, 0, none⟩)] W fun e w' => e = .returned (.int .u16 (v1 : Nat)) ∧ Dt B kb raw im en q p g w9 s2 w') := fun W w9 hW => by have h9 := tHalfX hW.out; rw [e1] at h9; exact h9
 have K2 : Hid (∀ W w9, Hid (Dt B kb raw im en q p g w9 s2 W) → Calls Tryz.prog 136 #[.pointer (some ⟨p, 0, none⟩)] W fun e w' => e = .returned (.int .u32 (v2 : Nat)) ∧ Dt B kb raw im en q p g w9 s3 w') := fun W w9 hW => by have h9 := tWordX hW.out; rw [e2] at h9; exact h9
 have K3 : Hid (∀ W w9, Hid (Dt B kb raw im en q p g w9 s3 W) → Calls Tryz.prog 136 #[.pointer (some ⟨p, 0, none⟩)] W fun e w' => e = .returned (.int .u32 (v3 : Nat)) ∧ Dt B kb raw im en q p g w9 s4 w') := fun W w9 hW => by have h9 := tWordX hW.out; rw [e3] at h9; exact h9
 have K4 : Hid (∀ W w9, Hid (Dt B kb raw im en q p g w9 s4 W) → Calls Tryz.prog 136 #[.pointer (some ⟨p, 0, none⟩)] W fun e w' => e = .returned (.int .u32 (v4 : Nat)) ∧ Dt B kb raw im en q p g w9 s5 w') := fun W w9 hW => by have h9 := tWordX hW.out; rw [e4] at h9; exact h9
 have HE : entD q s = ((⟨v0, v1, v2, v3, v4⟩ : En), s5) := by simp only [entD, e0, e1, e2, e3, e4]
 have b0 : v0 < 65536 := by have h9 := take_lt h.small 2 s; rw [e0] at h9; exact h9
 have b1 : v1 < 65536 := by have h9 := take_lt h.small 2 s1; rw [e1] at h9; exact h9
 have b2 : v2 < 4294967296 := by have h9 := take_lt h.small 4 s2; rw [e2] at h9; exact h9
 have b3 : v3 < 4294967296 := by have h9 := take_lt h.small 4 s3; rw [e3] at h9; exact h9
 have b4 : v4 < 4294967296 := by have h9 := take_lt h.small 4 s4; rw [e4] at h9; exact h9
 clear h h1 hf1 hb1 hl1;have hw0 : IntKind.i64.wrap (v0 : Int) = (v0 : Int) := by rw [IntKind.wrap_i64]; omega
 have hw1 : IntKind.i64.wrap (v1 : Int) = (v1 : Int) := by rw [IntKind.wrap_i64]; omega
 have hw2 : IntKind.i64.wrap (v2 : Int) = (v2 : Int) := by rw [IntKind.wrap_i64]; omega
 have hw3 : IntKind.i64.wrap (v3 : Int) = (v3 : Int) := by rw [IntKind.wrap_i64]; omega
 rw [HE];clear HE e0 e1 e2 e3 e4;dsimp only;go_enter Tryz.func138, Tryz.ntmps138
 go_wp2_with fail
 refine (K0.out _ _ H0).mono ?_;rintro e w1 ⟨rfl, h9⟩;have H1 : Hid (Dt B kb raw im en q p g (w.alloc (.cells ([.int .i64 0, .int .i64 0, .int .i64 0, .int .i64 0, .int .u32 0] : List Value).toArray 88)) s1 w1) := h9;clear h9 H0 K0;go_wp2_with fail
 refine (K1.out _ _ H1).mono ?_;rintro e w2 ⟨rfl, h9⟩;have H2 : Hid (Dt B kb raw im en q p g (w.alloc (.cells ([.int .i64 0, .int .i64 0, .int .i64 0, .int .i64 0, .int .u32 0] : List Value).toArray 88)) s2 w2) := h9;clear h9 H1 K1;go_wp2_with fail
 refine (K2.out _ _ H2).mono ?_;rintro e w3 ⟨rfl, h9⟩;have H3 : Hid (Dt B kb raw im en q p g (w.alloc (.cells ([.int .i64 0, .int .i64 0, .int .i64 0, .int .i64 0, .int .u32 0] : List Value).toArray 88)) s3 w3) := h9;clear h9 H2 K2;go_wp2_with fail
 refine (K3.out _ _ H3).mono ?_;rintro e w4 ⟨rfl, h9⟩;have H4 : Hid (Dt B kb raw im en q p g (w.alloc (.cells ([.int .i64 0, .int .i64 0, .int .i64 0, .int .i64 0, .int .u32 0] : List Value).toArray 88)) s4 w4) := h9;clear h9 H3 K3;go_wp2_with fail
 refine (K4.out _ _ H4).mono ?_;rintro e w5 ⟨rfl, h9⟩;have H5 : Hid (Dt B kb raw im en q p g (w.alloc (.cells ([.int .i64 0, .int .i64 0, .int .i64 0, .int .i64 0, .int .u32 0] : List Value).toArray 88)) s5 w5) := h9;clear h9 H4 K4;have hbx := HB.out _ _ H5.out;have d0 := box_cell hbx 0;have f0 := box_free hbx 0;have d1 := box_cell hbx 1;have f1 := box_free hbx 1;have d2 := box_cell hbx 2;have f2 := box_free hbx 2;have d3 := box_cell hbx 3;have f3 := box_free hbx 3;have d4 := box_cell hbx 4;have f4 := box_free hbx 4;simp only [List.getElem?_cons_zero, List.getElem?_cons_succ] at d0 d1 d2 d3 d4;have HD : Hid (Db 88 w.heap.size B kb raw im en q p g w0 s5 w5) := ⟨H5.out.since HF.out, ⟨_, hbx⟩, HS.out, by decide, by decide, by decide⟩
 have HZ := Lib.hid hbx;clear hbx H5 HB HF HS;go_wp2_with fail
 generalize hW : World.setCell _ _ _ = W;have hz : W.heap[w.heap.size]? = some (.cells (enE (⟨v0, v1, v2, v3, v4⟩ : En)).toArray 88 (0, 0)) := by rw [← hW]; exact (box_set (box_set (box_set (box_set (box_set HZ.out _ _) _ _) _ _) _ _) _ _)
 have HW : Hid (Dt B kb raw im en q p g w0 s5 W) := by
  refine Db.dt (t := 88) (n := w.heap.size) ?_;rw [← hW];exact (Db.set (Db.set (Db.set (Db.set (Db.set HD.out _ _) _ _) _ _) _ _) _ _)
 clear hW HD HZ d0 f0 d1 f1 d2 f2 d3 f3 d4 f4;simp only [enE, entV] at hz;have g0 := box_cell hz 0;have g1 := box_cell hz 1;have g2 := box_cell hz 2;have g3 := box_cell hz 3;have g4 := box_cell hz 4;simp only [List.getElem?_cons_zero, List.getElem?_cons_succ] at g0 g1 g2 g3 g4;clear hz;refine bodyPost_ret (v := .agg (enE (⟨v0, v1, v2, v3, v4⟩ : En)).toArray) (by simp [results, Tryz.results138, go_sem, enE, entV, g0, g1, g2, g3, g4]) rfl ?_;exact ⟨rfl, HW.out⟩
theorem end_bad {zs : List Nat} {pos : Nat} {why : Int} (h : Rd w p g zs pos why) (hy : why ≠ 0) : Calls Tryz.prog 124 #[.pointer (some ⟨p, 0, none⟩)] w fun e w' => e = .returned (.int .i64 why) ∧ w' = w := by
 have c2 := h.cell2;clear h;go_enter Tryz.func124, Tryz.ntmps124
 go_wp2_with fail
 go_ret
 exact ⟨rfl, rfl⟩
theorem rendX (h : Dt B kb raw im en q p g w0 s w) : Calls Tryz.prog 124 #[.pointer (some ⟨p, 0, none⟩)] w fun e w' => ∃ r : Int, e = .returned (.int .i64 r) ∧ (r = 0 ↔ s.rw = 0 ∧ s.pos = q.Z.length) ∧ Dt B kb raw im en q p g w0 s w' := by
 by_cases h0 : s.rw = 0
 ·have hr := h.rd;rw [h0] at hr
  by_cases hl : s.pos = q.Z.length
  ·exact (end_none hr hl).mono (fun e w' h9 => ⟨0, h9.1, ⟨fun _ => ⟨h0, hl⟩, fun _ => rfl⟩, h.below h9.2.2⟩)
  ·exact (end_some hr (by have := hr.2.2.2.1; omega)).mono (fun e w' h9 => ⟨12, h9.1, ⟨fun e => by omega, fun e => absurd e.2 hl⟩, h.below h9.2.2⟩)
 ·exact (end_bad h.rd h0).mono (fun e w' h9 => ⟨s.rw, h9.1, ⟨fun e => absurd e h0, fun e => absurd e.1 h0⟩, by rw [h9.2]; exact h⟩)
end
end Go.Proofs.YtmfkggngjeolcaaGreatDoor
