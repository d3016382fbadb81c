/- Scan: skip. -/
import Derived.Test.YtlhecgokedckdaaDoorScCut
namespace Go.Proofs.YtlhecgokedckdaaDoor
open Go.RowKit
/-- the place of a cutter -/
def posOf (w : World) (p : Nat) : Nat := match w.cell? ⟨p, 1, none⟩ with | some (.int _ n) => n.toNat | _ => 0
theorem CutB.pos {w : World} {p : Nat} {v : Value} {a : Nat} {lv : Value} (h : CutB w p v a lv) : posOf w p = a := by
  simp [posOf, h.cell1]
/-- a byte of the text, where the cutter stands -/
theorem Sl.at {w : World} {v : Value} {zs : List Nat} (h : Sl w v zs) {a : Nat} (ha : a < zs.length) : ∃ b o cap, v = .slice (some ⟨b, o, none⟩) zs.length cap ∧ zs.length ≤ cap ∧ w.cell? ⟨b, o + a, none⟩ = some (.int .u8 (zs.getD a 0 : Nat)) := by
  obtain ⟨b, o, cap, rfl, h1, h2, h3, h4⟩ := h.pos (by omega)
  exact ⟨b, o, cap, rfl, h1, h4 a ha⟩
theorem Sl.byte {w : World} {v : Value} {zs : List Nat} (h : Sl w v zs) (a : Nat) : zs.getD a 0 < 256 := Pl.mem_getD h.small
theorem Sc.skipN_cons (c : Bool) (b : Nat) (l : List Nat) : Sc.skipN c (b :: l) = if b = 10 then Sc.skipN false l + 1 else if c = true ∨ Sc.cls b = 1 then Sc.skipN c l + 1 else if Sc.cls b = 2 then Sc.skipN true l + 1 else 0 := rfl
theorem Sc.drop_getD {zs : List Nat} {a : Nat} (h : a < zs.length) : zs.drop a = zs.getD a 0 :: zs.drop (a + 1) := by
  rw [List.drop_eq_getElem_cons h, List.getD_eq_getElem?_getD, List.getElem?_eq_getElem h]; rfl
/-- what holds at each round of skip -/
def SkipI (w : World) (p : Nat) (v : Value) (zs : List Nat) (lv : Value) (goal : Nat) (c : Bool) (wr : World) (a : Nat) : Prop :=
  a ≤ zs.length ∧ CutB wr p v a lv ∧ Keeps (fun k => k = p) w wr ∧ a + Sc.skipN c (zs.drop a) = goal
theorem SkipI.next {w : World} {p : Nat} {v : Value} {zs : List Nat} {lv : Value} {goal : Nat} {c : Bool} {wr : World} {a : Nat} (h : SkipI w p v zs lv goal c wr a) (hlt : a < zs.length) (c' : Bool) (n : Nat) (hst : a + 1 + Sc.skipN c' (zs.drop (a + 1)) = goal) :
    SkipI w p v zs lv goal c' ((wr.drewN n).setCell ⟨p, 1, none⟩ (.int .i64 ((a : Int) + 1))) (a + 1) := by
  have hk : Keeps (fun k => k = p) w (wr.drewN n) := ⟨h.2.2.1.os, h.2.2.1.tape, h.2.2.1.output, h.2.2.1.size, h.2.2.1.block⟩
  have hc : CutB (wr.drewN n) p v a lv := h.2.1
  exact ⟨by omega, hc.move (a + 1), hk.trans (Keeps.setCell _ p 1 _) (fun _ _ e => e), hst⟩
theorem SkipI.round {w : World} {p : Nat} {v : Value} {zs : List Nat} {lv : Value} {goal : Nat} {c c' : Bool} {wr : World} {a n : Nat} (h : SkipI w p v zs lv goal c wr a) (hlt : a < zs.length) (hp : posOf wr p = a) (hst : a + 1 + Sc.skipN c' (zs.drop (a + 1)) = goal) :
    (∃ b a', Value.bool c' = Value.bool b ∧ Hid (SkipI w p v zs lv goal b ((wr.drewN n).setCell ⟨p, 1, none⟩ (.int .i64 ((a : Int) + 1))) a')) ∧ zs.length - posOf ((wr.drewN n).setCell ⟨p, 1, none⟩ (.int .i64 ((a : Int) + 1))) p < zs.length - posOf wr p := by
  have hn := h.next hlt c' n hst
  refine ⟨⟨c', a + 1, rfl, hn⟩, ?_⟩
  rw [hn.2.1.pos, hp]; omega
theorem Sc.skip_nl {a z goal : Nat} {c : Bool} {l : List Nat} (h : a + Sc.skipN c (z :: l) = goal) (e : z = 10) : a + 1 + Sc.skipN false l = goal := by
  rw [Sc.skipN_cons, if_pos e] at h; omega
theorem Sc.skip_in {a z goal : Nat} {c : Bool} {l : List Nat} (h : a + Sc.skipN c (z :: l) = goal) (e : z ≠ 10) (e2 : c = true ∨ Sc.cls z = 1) : a + 1 + Sc.skipN c l = goal := by
  rw [Sc.skipN_cons, if_neg e, if_pos e2] at h; omega
theorem Sc.skip_hash {a z goal : Nat} {l : List Nat} (h : a + Sc.skipN false (z :: l) = goal) (e : z ≠ 10) (e2 : Sc.cls z ≠ 1) (e3 : Sc.cls z = 2) : a + 1 + Sc.skipN true l = goal := by
  rw [Sc.skipN_cons, if_neg e, if_neg (by simp [e2]), if_pos e3] at h; omega
theorem Sc.skip_end {a z goal : Nat} {l : List Nat} (h : a + Sc.skipN false (z :: l) = goal) (e : z ≠ 10) (e2 : Sc.cls z ≠ 1) (e3 : Sc.cls z ≠ 2) : a = goal := by
  rw [Sc.skipN_cons, if_neg e, if_neg (by simp [e2]), if_neg e3] at h; omega
theorem nat_of_beq {z k : Nat} (h : ((z : Int) == (k : Int)) = true) : z = k := Int.ofNat_inj.1 (by simpa using h)
theorem nat_of_bne {z k : Nat} (h : ((z : Int) == (k : Int)) = false) : z ≠ k := fun e => by rw [e] at h; simp at h
set_option maxRecDepth 100000 in
set_option maxHeartbeats 2000000 in
theorem skip_any {w : World} {p : Nat} {v : Value} {a : Nat} {lv : Value} {zs : List Nat} (ht : Tabs w) (h : CutB w p v a lv) (hs : Sl w v zs) (hp : v.ownBlock ≠ some p) (hp9 : 9 ≤ p) (ha : a ≤ zs.length) :
    Calls Tryd.prog 19 #[.pointer (some ⟨p, 0, none⟩)] w fun e w' => e = .returned (.tuple #[]) ∧ CutB w' p v (a + Sc.skipN false (zs.drop a)) lv ∧ Keeps (fun k => k = p) w w' := by
  have hlen := hs.len
  unfold maxLen at hlen
  have HT : Hid (Tabs w) := ht
  have HC : Hid (CutB w p v a lv) := h
  have HS : Hid (Sl w v zs) := hs
  clear ht h hs
  go_enter Tryd.func19, Tryd.ntmps19
  go_wp2
  go_loopw [2] (fun c wr => ∃ b a', c = .bool b ∧ Hid (SkipI w p v zs lv (a + Sc.skipN false (zs.drop a)) b wr a')) (fun _ wr => zs.length - posOf wr p)
  case atStart => exact ⟨false, a, rfl, ha, HC.out, Keeps.refl _ _, rfl⟩
  case round =>
    obtain ⟨cm, a', rfl, HI⟩ := hrel
    generalize hg : a + Sc.skipN false (zs.drop a) = goal at *
    have HG : Hid (a + Sc.skipN false (zs.drop a) = goal) := hg
    clear hg
    have hpos := HI.out.2.1.pos
    have c0 := HI.out.2.1.cell0
    have c1 := HI.out.2.1.cell1
    have t1 := HI.out.2.1.thawed 1
    have HSr : Hid (Sl wr v zs) := HS.out.keeps HI.out.2.2.1 (fun k hk e => hp (e ▸ hk))
    have HTr : Hid (Tabs wr) := HT.out.keeps HI.out.2.2.1 (fun k hk e => by omega)
    have hal := HI.out.1
    by_cases hlt : a' < zs.length
    · obtain ⟨b, o, cap, rfl, h1, hc⟩ := HSr.out.at hlt
      have hb := HSr.out.byte a'
      have i1 : (a' : Int) < (zs.length : Int) := by omega
      have hfin := HI.out.2.2.2
      rw [Sc.drop_getD hlt] at hfin
      generalize zs.getD a' 0 = z at *
      have HFin : Hid (a' + Sc.skipN cm (z :: zs.drop (a' + 1)) = goal) := hfin
      have HPos : Hid (posOf wr p = a') := hpos
      clear hfin hpos
      have HCl : Hid (∀ W, Below wr.heap.size wr W → Calls Tryd.prog 30 #[.int .u8 (z : Int)] W fun e w' => e = .returned (.int .u8 (Sc.cls z : Nat)) ∧ w' = W) := fun W hW => class_any hb (HTr.out.below hW)
      by_cases hz : z = 10
      · have q : ((z : Int) == 10) = true := by rw [hz]; rfl
        have HZ : Hid (z = 10) := hz
        clear hz
        go_wp2
        go_quiet (fail)
        go_wp2
        go_quiet (fail)
        go_wp2_with fail
        exact HI.out.round hlt HPos.out (Sc.skip_nl HFin.out HZ.out)
      · have q : ((z : Int) == 10) = false := beq_eq_false_iff_ne.2 (by omega)
        cases cm with
        | true =>
          go_wp2
          go_quiet (fail)
          go_wp2
          go_quiet (fail)
          go_wp2_with fail
          exact HI.out.round hlt HPos.out (Sc.skip_in HFin.out hz (.inl rfl))
        | false =>
          have e1 := fun e1 : Sc.cls z = 1 => Sc.skip_in HFin.out hz (.inr e1)
          have e2 := fun (e1 : Sc.cls z ≠ 1) (e2 : Sc.cls z = 2) => Sc.skip_hash HFin.out hz e1 e2
          have e3 := fun (e1 : Sc.cls z ≠ 1) (e2 : Sc.cls z ≠ 2) => Sc.skip_end HFin.out hz e1 e2
          generalize Sc.cls z = c at *
          have E1 : Hid (c = 1 → a' + 1 + Sc.skipN false (zs.drop (a' + 1)) = goal) := e1
          have E2 : Hid (c ≠ 1 → c = 2 → a' + 1 + Sc.skipN true (zs.drop (a' + 1)) = goal) := e2
          have E3 : Hid (c ≠ 1 → c ≠ 2 → a' = goal) := e3
          clear e1 e2 e3
          by_cases k1 : c = 1
          · have HE : Hid (a' + 1 + Sc.skipN false (zs.drop (a' + 1)) = goal) := E1.out k1
            subst k1
            go_wp2
            go_quiet (fail)
            go_wp2
            go_quiet (fail)
            go_wp2_with fail
            refine (HCl.out _ (bdn (Below.refl _ _) _)).mono ?_
            rintro e w1 ⟨rfl, rfl⟩
            go_wp2_with fail
            exact HI.out.round hlt HPos.out HE.out
          · have q1 : ((c : Int) == 1) = false := beq_eq_false_iff_ne.2 (by omega)
            by_cases k2 : c = 2
            · have HE : Hid (a' + 1 + Sc.skipN true (zs.drop (a' + 1)) = goal) := E2.out k1 k2
              subst k2
              go_wp2
              go_quiet (fail)
              go_wp2
              go_quiet (fail)
              go_wp2_with fail
              refine (HCl.out _ (bdn (Below.refl _ _) _)).mono ?_
              rintro e w1 ⟨rfl, rfl⟩
              go_wp2_with fail
              refine (HCl.out _ (bdn (Below.refl _ _) _)).mono ?_
              rintro e w1 ⟨rfl, rfl⟩
              go_wp2_with fail
              exact HI.out.round hlt HPos.out HE.out
            · have q2 : ((c : Int) == 2) = false := beq_eq_false_iff_ne.2 (by omega)
              have hE := E3.out k1 k2
              subst hE
              have HK : Hid (Keeps (fun k => k = p) w wr) := HI.out.2.2.1
              have HCr : Hid (CutB wr p (.slice (some ⟨b, o, none⟩) zs.length cap) a' lv) := HI.out.2.1
              go_wp2
              go_quiet (fail)
              go_wp2
              go_quiet (fail)
              go_wp2_with fail
              refine (HCl.out _ (bdn (Below.refl _ _) _)).mono ?_
              rintro e w1 ⟨rfl, rfl⟩
              go_wp2_with fail
              refine (HCl.out _ (bdn (Below.refl _ _) _)).mono ?_
              rintro e w1 ⟨rfl, rfl⟩
              go_wp2_with fail
              refine bodyPost_ret (results_none rfl _ _ _) rfl ?_
              exact ⟨rfl, (by rw [HG.out]; exact HCr.out), HK.out.trans (Keeps.of_below (S := fun _ => False) (bdn (Below.refl _ _) _)) (fun _ _ e => e.elim)⟩
    · obtain ⟨ao, cap, rfl, _⟩ := id HSr.out
      have hE : a' = goal := by
        have := HI.out.2.2.2
        rw [List.drop_eq_nil_of_le (by omega)] at this
        exact this
      subst hE
      have HK : Hid (Keeps (fun k => k = p) w wr) := HI.out.2.2.1
      have HCr : Hid (CutB wr p (.slice ao zs.length cap) a' lv) := HI.out.2.1
      go_wp2
      go_quiet (fail)
      go_wp2
      go_end0
      exact ⟨rfl, (by rw [HG.out]; exact HCr.out), HK.out.trans (Keeps.of_below (S := fun _ => False) (bdn (Below.refl _ _) _)) (fun _ _ e => e.elim)⟩
end Go.Proofs.YtlhecgokedckdaaDoor
