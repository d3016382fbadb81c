/- takes of any step, over the shelf. Own work. -/
import Derived.Test.YtceljnkbkpgdjaaDoorRdTk
import Derived.Test.YtceljnkbkpgdjaaDoorRdSt2
namespace Go.Proofs.YtceljnkbkpgdjaaDoor
open Go.RowKit Go.Shelf
set_option linter.unusedVariables false
theorem numA_why {b : Nat} {zs : List Nat} {pos : Nat} {why : Int} (h0 : 0 ≤ why) (h1 : why ≤ 12) : 0 ≤ (numA b zs pos why).2.2 ∧ (numA b zs pos why).2.2 ≤ 12 := by
  unfold numA
  repeat' split
  all_goals (first | exact ⟨h0, h1⟩ | exact ⟨show (0 : Int) ≤ 0 by decide, show (0 : Int) ≤ 12 by decide⟩ | exact ⟨show (0 : Int) ≤ 10 by decide, show (10 : Int) ≤ 12 by decide⟩)
theorem bytesA_why {n : Int} {zs : List Nat} {pos : Nat} {why : Int} (h0 : 0 ≤ why) (h1 : why ≤ 12) : 0 ≤ (bytesA n zs pos why).2.2 ∧ (bytesA n zs pos why).2.2 ≤ 12 := by
  unfold bytesA
  repeat' split
  all_goals (first | exact ⟨h0, h1⟩ | exact ⟨show (0 : Int) ≤ 0 by decide, show (0 : Int) ≤ 12 by decide⟩ | exact ⟨show (0 : Int) ≤ 10 by decide, show (10 : Int) ≤ 12 by decide⟩ | exact ⟨show (0 : Int) ≤ 1 by decide, show (1 : Int) ≤ 12 by decide⟩)
theorem textA_why {n : Int} {zs : List Nat} {pos : Nat} {why : Int} (h0 : 0 ≤ why) (h1 : why ≤ 12) : 0 ≤ (textA n zs pos why).2.2 ∧ (textA n zs pos why).2.2 ≤ 12 := by
  unfold textA
  repeat' split
  all_goals (first | exact ⟨h0, h1⟩ | exact ⟨show (0 : Int) ≤ 0 by decide, show (0 : Int) ≤ 12 by decide⟩ | exact ⟨show (0 : Int) ≤ 10 by decide, show (10 : Int) ≤ 12 by decide⟩ | exact ⟨show (0 : Int) ≤ 3 by decide, show (3 : Int) ≤ 12 by decide⟩)
theorem padA_why {n : Int} {zs : List Nat} {pos : Nat} {why : Int} (h0 : 0 ≤ why) (h1 : why ≤ 12) : 0 ≤ (padA n zs pos why).2 ∧ (padA n zs pos why).2 ≤ 12 := by
  unfold padA
  repeat' split
  all_goals (first | exact ⟨h0, h1⟩ | exact ⟨show (0 : Int) ≤ 0 by decide, show (0 : Int) ≤ 12 by decide⟩ | exact ⟨show (0 : Int) ≤ 10 by decide, show (10 : Int) ≤ 12 by decide⟩ | exact ⟨show (0 : Int) ≤ 1 by decide, show (1 : Int) ≤ 12 by decide⟩ | exact ⟨show (0 : Int) ≤ 5 by decide, show (5 : Int) ≤ 12 by decide⟩)
theorem sealA_why {n : Int} {zs : List Nat} {pos : Nat} {why : Int} (h0 : 0 ≤ why) (h1 : why ≤ 12) : 0 ≤ (sealA n zs pos why).2 ∧ (sealA n zs pos why).2 ≤ 12 := by
  unfold sealA
  repeat' split
  all_goals (first | exact ⟨h0, h1⟩ | exact ⟨show (0 : Int) ≤ 0 by decide, show (0 : Int) ≤ 12 by decide⟩ | exact ⟨show (0 : Int) ≤ 10 by decide, show (10 : Int) ≤ 12 by decide⟩ | exact ⟨show (0 : Int) ≤ 1 by decide, show (1 : Int) ≤ 12 by decide⟩ | exact ⟨show (0 : Int) ≤ 11 by decide, show (11 : Int) ≤ 12 by decide⟩)
theorem bytesA_small {n : Int} {zs : List Nat} {pos : Nat} {why : Int} (hz : ∀ z ∈ zs, z < 256) : ∀ z ∈ (bytesA n zs pos why).1, z < 256 := by
  unfold bytesA
  repeat' split
  all_goals (intro z h; first | (simp at h; done) | exact hz z (List.mem_of_mem_drop (List.mem_of_mem_take h)))
theorem bytesA_len {n : Int} {zs : List Nat} {pos : Nat} {why : Int} : (bytesA n zs pos why).1.length ≤ zs.length := by
  unfold bytesA
  repeat' split
  all_goals (first | exact Nat.zero_le _ | (show ((zs.drop pos).take n.toNat).length ≤ zs.length; rw [List.length_take, List.length_drop]; omega))
set_option maxRecDepth 100000 in
set_option maxHeartbeats 4000000 in
theorem takes_bytes {w0 w : World} {X i : Nat} {v : Value} {zs : List Nat} {L : List Ri} {As Bs : List Value} {A B : Value} {pos0 num : Int} {n : Nat} {pa : Option Addr} {pl pc : Nat} {s : ByteArray} (h : Rh w0 X v zs L As Bs A B w) (hi : i < L.length) (hnum : num ≤ 9223372036854775807) :
    Calls Tryd.prog 25 #[.pointer (some ⟨X, 0, none⟩), .pointer (some ⟨L[i].p, 0, none⟩), .pointer (some ⟨L[i].r, 0, none⟩), .agg #[.int .i64 5, .int .i64 pos0, .int .u64 (n : Int), .int .i64 num, .slice pa pl pc, .string s]] w fun e w' => e = .returned (.bool true) ∧ Rh w0 X v zs (L.set i ⟨L[i].p, L[i].g, L[i].r, (bytesA num zs L[i].pos L[i].why).2.1, (bytesA num zs L[i].pos L[i].why).2.2⟩) As Bs A B w' ∧ OpK w w' := by
  have o := h.ok L[i] (List.getElem_mem hi)
  have hpr : L[i].p ≠ L[i].r := fun e => Tg.ne (w := w) (k := L[i].p) ⟨_, o.rd.1⟩ (by rw [e]; exact ⟨_, o.rr.1⟩) (by decide)
  have hgr : L[i].g ≠ L[i].r := fun e => Tg.ne (w := w) (k := L[i].g) ⟨_, o.rd.2.1⟩ (by rw [e]; exact ⟨_, o.rr.1⟩) (by decide)
  have hvp : zs ≠ [] → ∀ k, v.ownBlock = some k → k ≠ L[i].p := fun hz k hk e => by have := h.vb hz k hk; have := o.gp; omega
  have HTl : Hid (∀ la ln lc w', Rd w' L[i].p L[i].g zs (bytesA num zs L[i].pos L[i].why).2.1 (bytesA num zs L[i].pos L[i].why).2.2 → Rr w' L[i].r v zs (bytesA num zs L[i].pos L[i].why).2.1 (bytesA num zs L[i].pos L[i].why).2.2 → Keeps (fun k => k = L[i].p ∨ k = L[i].r) w w' → Own w' w.heap.size (.slice la ln lc) (bytesA num zs L[i].pos L[i].why).1 → _) := fun la ln lc w' h1 h2 hk hl => h.tell (la := la) (ln := ln) (lc := lc) (y := (bytesA num zs L[i].pos L[i].why).2) hi h1 h2 hk (bytesA_why o.w0 o.w1).1 (bytesA_why o.w0 o.w1).2 hl (Nat.le_trans bytesA_len (Nat.le_trans h.len (by decide))) (bytesA_small o.rd.2.2.2.2.1)
  have HOp : Hid (∀ k, (k = L[i].p ∨ k = L[i].r) → ¬ Tg w k 36) := by
    rintro k (rfl | rfl) ht
    · exact ht.ne ⟨_, o.rd.1⟩ (by decide)
    · exact ht.ne ⟨_, o.rr.1⟩ (by decide)
  have hXl := h.cells.2.2.2.1
  have hXp : L[i].p ≠ X := fun e => by
    obtain ⟨lv, wv, held, E, b, _⟩ := h.rows
    exact Tg.ne (w := w) (k := L[i].p) ⟨_, o.rd.1⟩ (by rw [e]; exact ⟨_, b.blk⟩) (by decide)
  generalize hx : L[i] = x at *
  have HK0 : Hid (Keeps (fun _ => False) w (w.alloc (.cells #[.int .i64 5, .int .i64 pos0, .int .u64 (n : Int), .int .i64 num, .slice pa pl pc, .string s] 36))) := Keeps.alloc w _
  have HP := Lib.hid (prBytes_any (n := num) (o.rd.keeps HK0.out id id) hnum)
  have hlp := o.rd.lt
  have HSm : Hid (∀ z ∈ (bytesA num zs x.pos x.why).1, z < 256) := bytesA_small o.rd.2.2.2.2.1
  have HR : Hid (∀ W', RdPost (w.alloc (.cells #[.int .i64 5, .int .i64 pos0, .int .u64 (n : Int), .int .i64 num, .slice pa pl pc, .string s] 36)) x.p x.g zs (bytesA num zs x.pos x.why).2 W' → W'.cell? ⟨w.heap.size, 3, none⟩ = some (.int .i64 num) ∧ Calls Tryd.prog 52 #[.pointer (some ⟨x.r, 0, none⟩), .int .i64 num] W' fun e w' => ∃ u, e = .returned u ∧ Own w' W'.heap.size u (bytesA num zs x.pos x.why).1 ∧ Keeps (fun k => k = x.r) W' w' ∧ TkPost w x.p x.g x.r v zs (bytesA num zs x.pos x.why).2 w') := fun W' h1 =>
    ⟨box_past hlp h1 3 _ rfl, (rrBytes_any (o.rr.past hpr hvp HK0.out h1) hnum).mono fun e w' ⟨u, he, ho, hp⟩ => ⟨u, he, ho, hp.2, RrPost.joins hpr hgr HK0.out h1 hp⟩⟩
  have HLr : Hid (x.r < w.heap.size) := o.rr.lt
  have HSz : Hid (w.heap.size ≤ (w.alloc (.cells #[.int .i64 5, .int .i64 pos0, .int .u64 (n : Int), .int .i64 num, .slice pa pl pc, .string s] 36)).heap.size) := by show _ ≤ _; simp
  obtain ⟨xs, hxs⟩ : ∃ xs, (bytesA num zs x.pos x.why).1 = xs := ⟨_, rfl⟩
  obtain ⟨Y, hY⟩ : ∃ Y, (bytesA num zs x.pos x.why).2 = Y := ⟨_, rfl⟩
  rw [hxs] at HP HSm HR HTl
  rw [hY] at HP HR HTl ⊢
  clear h o hi hpr hgr hvp hx hxs hY hlp
  go_enter Tryd.func25, Tryd.ntmps25
  go_wp2_with fail
  refine HP.out.mono ?_
  rintro e w1 ⟨la, ln, lc, rfl, ho1, h1⟩
  obtain ⟨c3, hq⟩ := HR.out _ h1
  have HQ := Lib.hid hq
  have HO1 := Lib.hid ho1
  have HS1 : Hid (w.heap.size ≤ w1.heap.size) := Nat.le_trans HSz.out h1.2.size
  clear h1 hq HP HR ho1
  go_wp2_with fail
  refine HQ.out.mono ?_
  rintro e w2 ⟨u, rfl, ho2, hk2, h2⟩
  have hsa : Sl w2 (.slice la ln lc) xs := (HO1.out.sl HSm.out).keeps hk2 (fun k hk e => by have h9 := (HO1.out.lt k hk).1; have := HLr.out; have := HSz.out; omega)
  have HO2 : Hid (Own w2 w.heap.size (.slice la ln lc) xs) := (HO1.out.weak HSz.out).keeps hk2 (fun k hk e => by have h9 := (HO1.out.lt k hk).1; have := HLr.out; have := HSz.out; omega)
  have hsu := ho2.sl HSm.out
  have HSa := Lib.hid (same_any hsa hsu)
  obtain ⟨ua, uc, rfl, _⟩ := hsu
  have HT2 := Lib.hid h2
  clear hsa ho2 hk2 h2 HQ HO1
  go_wp2_with fail
  refine HSa.out.mono ?_
  rintro e w3 ⟨rfl, hb3⟩
  have HC := Lib.hid (HTl.out la ln lc w3 (HT2.out.1.keeps (S := fun _ => False) (Keeps.of_below hb3) id id) (HT2.out.2.1.below hb3) (HT2.out.2.2.comp0 hb3) (HO2.out.below hb3))
  have hX3 : X < w3.heap.size := by have := HT2.out.2.2.size; have := hb3.size; omega
  have HB3 := Lib.hid hb3
  clear hb3 HTl HSa HO2
  have HO3 : Hid (OpK w w3) := (OpK.of_keeps HT2.out.2.2 HOp.out).trans (OpK.of_below HB3.out)
  go_wp2_with fail
  refine HC.out.mono ?_
  rintro e w4 ⟨rfl, h4, hk4⟩
  have HZ := Lib.hid h4
  have HZ2 : Hid (OpK w w4) := HO3.out.trans hk4
  clear h4 HC hk4
  go_wp2_with fail
  go_ret
  exact ⟨rfl, HZ.out, HZ2.out⟩
/-- takes, whatever the step -/
theorem takes_any {w0 w : World} {X i : Nat} {v : Value} {zs : List Nat} {L : List Ri} {As Bs : List Value} {A B : Value} {kind pos0 num : Int} {n : Nat} {pa : Option Addr} {pl pc : Nat} {s : ByteArray} (h : Rh w0 X v zs L As Bs A B w) (hi : i < L.length) (hnum : num ≤ 9223372036854775807) (ht : Tab w) :
    Calls Tryd.prog 25 #[.pointer (some ⟨X, 0, none⟩), .pointer (some ⟨L[i].p, 0, none⟩), .pointer (some ⟨L[i].r, 0, none⟩), .agg #[.int .i64 kind, .int .i64 pos0, .int .u64 (n : Int), .int .i64 num, .slice pa pl pc, .string s]] w fun e w' => e = .returned (.bool true) ∧ (∃ y : Nat × Int, Rh w0 X v zs (L.set i ⟨L[i].p, L[i].g, L[i].r, y.1, y.2⟩) As Bs A B w') ∧ OpK w w' := by
  have o := h.ok L[i] (List.getElem_mem hi)
  have hpr : L[i].p ≠ L[i].r := fun e => Tg.ne (w := w) (k := L[i].p) ⟨_, o.rd.1⟩ (by rw [e]; exact ⟨_, o.rr.1⟩) (by decide)
  have hgr : L[i].g ≠ L[i].r := fun e => Tg.ne (w := w) (k := L[i].g) ⟨_, o.rd.2.1⟩ (by rw [e]; exact ⟨_, o.rr.1⟩) (by decide)
  have hvp : zs ≠ [] → ∀ k, v.ownBlock = some k → k ≠ L[i].p := fun hz k hk e => by have := h.vb hz k hk; have := o.gp; omega
  have fin : ∀ (x : Nat × Int), 0 ≤ x.2 ∧ x.2 ≤ 12 → ∀ (e : Ending) w', e = .returned (.bool true) ∧ TkPost w L[i].p L[i].g L[i].r v zs x w' → e = .returned (.bool true) ∧ (∃ y : Nat × Int, Rh w0 X v zs (L.set i ⟨L[i].p, L[i].g, L[i].r, y.1, y.2⟩) As Bs A B w') ∧ OpK w w' := fun x hx e w' hp => ⟨hp.1, ⟨x, h.step hi hp.2.1 hp.2.2.1 hp.2.2.2 hx.1 hx.2⟩, OpK.of_keeps hp.2.2.2 (by
    rintro k (rfl | rfl) ht
    · exact ht.ne ⟨_, o.rd.1⟩ (by decide)
    · exact ht.ne ⟨_, o.rr.1⟩ (by decide))⟩
  by_cases e1 : kind = 1
  · subst e1; exact (takes_Byte o.rd o.rr hpr hgr hvp).mono (fin _ (numA_why o.w0 o.w1))
  by_cases e2 : kind = 2
  · subst e2; exact (takes_Half o.rd o.rr hpr hgr hvp).mono (fin _ (numA_why o.w0 o.w1))
  by_cases e3 : kind = 3
  · subst e3; exact (takes_Word o.rd o.rr hpr hgr hvp).mono (fin _ (numA_why o.w0 o.w1))
  by_cases e4 : kind = 4
  · subst e4; exact (takes_Long o.rd o.rr hpr hgr hvp).mono (fin _ (numA_why o.w0 o.w1))
  by_cases e5 : kind = 5
  · subst e5; exact (takes_bytes h hi hnum).mono fun e w' hx => ⟨hx.1, ⟨_, hx.2.1⟩, hx.2.2⟩
  by_cases e6 : kind = 6
  · subst e6; exact (takes_Text o.rd o.rr hpr hgr hvp).mono (fin _ (textA_why o.w0 o.w1))
  by_cases e7 : kind = 7
  · subst e7; exact (takes_Pad o.rd o.rr hpr hgr hvp ht).mono (fin _ (padA_why o.w0 o.w1))
  by_cases e8 : kind = 8
  · subst e8; exact (takes_Seal o.rd o.rr hpr hgr hvp ht).mono (fin _ (sealA_why o.w0 o.w1))
  exact (takes_none o.rd o.rr hpr hgr hvp e1 e2 e3 e4 e5 e6 e7 e8).mono (fin (_, _) ⟨o.w0, o.w1⟩)
end Go.Proofs.YtceljnkbkpgdjaaDoor
