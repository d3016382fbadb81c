/- The document's own Writer: Text, Pad, Seal. Own work. -/
import Derived.Test.YtceljnkbkpgdjaaDoorRwMem
import Derived.Lib.ConvBytes
namespace Go.Proofs.YtceljnkbkpgdjaaDoor
open Go.RowKit
theorem conv_bytes (w : World) (s : ByteArray) (hs : s.size ≤ 140737488355328) : ∃ c W, (convert 9 34 (.string s)).run Tryd.prog w = .ok (.slice (some ⟨w.heap.size, 0, none⟩) s.size c) W ∧ Sl W (.slice (some ⟨w.heap.size, 0, none⟩) s.size c) (sb s) ∧ Below w.heap.size w W ∧ w.heap.size < W.heap.size := by
  refine ⟨_, _, Lib.run_convert_string_bytes w 9 34 5 s Tryd.underlying9 Tryd.underlying34 Tryd.underlying5, ?_, ⟨rfl, rfl, rfl, by rw [Lib.bytesWorld_size]; omega, fun k hk => Lib.bytesWorld_at_old _ _ _ k hk⟩, by rw [Lib.bytesWorld_size]; omega⟩
  have hl := sb_length s
  refine ⟨_, _, by rw [hl], by rw [hl]; exact grownCap_ge _ _ _ _, grownCap_le_maxLen _ _ _ _ (by unfold maxLen; omega), sb_small s, by simp, fun i hi => ⟨_, _, rfl, ?_⟩⟩
  rw [hl] at hi
  rw [Nat.zero_add, Lib.bytesWorld_cell _ _ _ i hi]
  congr 2
  unfold sb
  have h' : i < s.data.toList.length := by simpa using hi
  rw [List.getD_eq_getElem?_getD, List.getD_eq_getElem?_getD, List.getElem?_map, List.getElem?_eq_getElem h']
  rfl
/-- a Writer that is laid on twice -/
theorem Rw.twice {w w1 w2 : World} {p : Nat} {v v1 v2 : Value} {zs ys : List Nat} {base : Nat} (h : Rw w p v zs 0 base) (k1 : Keeps (Foot p v) w w1) (a1 : At w v v1) (h2 : Rw w2 p v2 ys 0 base) (k2 : Keeps (Foot p v1) w1 w2) (a2 : At w1 v1 v2) : ∃ v', Rw w2 p v' ys 0 base ∧ Keeps (Foot p v) w w2 ∧ At w v v' := by
  have _ := h
  refine ⟨v2, h2, k1.trans k2 (fun i hi e => e.elim .inl (fun e => .inr (a1.foot i hi e))), ?_⟩
  rcases a2 with a2 | ⟨k, a2, a3⟩
  · rcases a1 with a1 | ⟨k, a1, a4⟩
    · exact .inl (a2.trans a1)
    · exact .inr ⟨k, a2.trans a1, a4⟩
  · exact .inr ⟨k, a2, Nat.le_trans k1.size a3⟩
theorem Keeps.comp0 {S : Nat → Prop} {w w1 w2 : World} (k1 : Keeps S w w1) (k2 : Below w1.heap.size w1 w2) : Keeps S w w2 := k1.trans (Keeps.of_below (S := fun _ => False) k2) (fun _ _ e => e.elim)
set_option maxRecDepth 100000 in
set_option maxHeartbeats 2000000 in
theorem rwText_any {w : World} {p base : Nat} {v : Value} {zs : List Nat} {s : ByteArray} (h : Rw w p v zs 0 base) (hs : s.size ≤ 65535) (hl : zs.length ≤ 549755812888) (hb : base ≤ w.heap.size) :
    Calls Tryd.prog 39 #[.pointer (some ⟨p, 0, none⟩), .string s] w fun e w' => e = .returned (.tuple #[]) ∧ ∃ v', Rw w' p v' (zs ++ (Pl.le 2 s.size ++ sb s)) 0 base ∧ Keeps (Foot p v) w w' ∧ At w v v' := by
  have c1 := h.cell1
  have HW : Hid (Rw w p v zs 0 base) := h
  have HN := Lib.hid (rwNumber_any (s := 2) (n := s.size) h (by omega) (by omega) (by omega) hb)
  have hd : decide ((65535 : Int) < (s.size : Int)) = false := decide_eq_false (by omega)
  have hwr : IntKind.u64.wrap (s.size : Int) = (s.size : Int) := by rw [IntKind.wrap_u64]; omega
  have HSb : Hid (s.size ≤ 140737488355328) := by show _ ≤ _; omega
  have HSl : Hid ((sb s).length = s.size) := sb_length s
  have HLe : Hid ((Pl.le 2 s.size).length = 2) := Pl.le_length _ _
  have hns : ¬ (65535 : Int) < (s.size : Int) := by omega
  clear h
  go_enter Tryd.func39, Tryd.ntmps39
  go_wp2_with fail
  refine HN.out.mono ?_
  rintro e w1 ⟨rfl, v1, h1, k1, a1⟩
  have HR1 : Hid (Rw w1 p v1 (zs ++ Pl.le 2 s.size) 0 base) := h1
  have HK1 : Hid (Keeps (Foot p v) w w1) := k1
  have HA1 : Hid (At w v v1) := a1
  obtain ⟨c, W, hcv, hsl, hbW, hlt⟩ := conv_bytes w1 s HSb.out
  have HR2 : Hid (Rw W p v1 (zs ++ Pl.le 2 s.size) 0 base) := h1.keeps (S := fun _ => False) (Keeps.of_below hbW) id (fun _ _ => id)
  have HB := Lib.hid (rwBytes_any HR2.out hsl (by rw [List.length_append, HLe.out]; omega) (by rw [HSl.out]; omega) (Nat.le_trans hb (Nat.le_trans k1.size hbW.size)))
  have HBW : Hid (Below w1.heap.size w1 W) := hbW
  clear h1 k1 a1 hsl hbW hlt HN HR1 c1
  go_wp2_with fail
  refine HB.out.mono ?_
  rintro e w2 ⟨rfl, v2, h2, k2, a2⟩
  have h3 := Rw.twice HW.out (HK1.out.comp0 HBW.out) HA1.out h2 k2 a2
  rw [List.append_assoc] at h3
  have H3 := Lib.hid h3
  clear h2 k2 a2 h3 HB
  go_wp2
  go_end0
  exact ⟨rfl, H3.out⟩
set_option maxRecDepth 100000 in
set_option maxHeartbeats 2000000 in
theorem rwPad_any {w : World} {p base al : Nat} {v : Value} {zs : List Nat} (h : Rw w p v zs 0 base) (h1 : 1 ≤ al) (h2 : al ≤ 4096) (hl : zs.length ≤ 549755813888) (hb : base ≤ w.heap.size) :
    Calls Tryd.prog 41 #[.pointer (some ⟨p, 0, none⟩), .int .i64 (al : Int)] w fun e w' => e = .returned (.tuple #[]) ∧ ∃ v', Rw w' p v' (zs ++ List.replicate (gapN zs.length al) 0) 0 base ∧ Keeps (Foot p v) w w' ∧ At w v v' := by
  have c0 := h.cell0
  have c1 := h.cell1
  have HW : Hid (Rw w p v zs 0 base) := h
  obtain ⟨ao, cap, rfl, g1, g2, _⟩ := h.2.1.sl h.2.2.2
  have HG : Hid (∀ W, Calls Tryd.prog 67 #[.int .i64 (zs.length : Int), .int .i64 (al : Int)] W fun e w' => e = .returned (.int .i64 (gapN zs.length al : Nat)) ∧ w' = W) := fun W => rgap_any zs.length al W h1 h2
  have j1 : ¬ (al : Int) < 1 := by omega
  have j2 : ¬ (4096 : Int) < (al : Int) := by omega
  have hgl : gapN zs.length al ≤ 4096 := Nat.le_trans (Nat.le_of_lt (Nat.mod_lt _ h1)) h2
  obtain ⟨i, hi, hz0, hz1, hz2⟩ := info_parts info_byte
  clear h
  go_enter Tryd.func41, Tryd.ntmps41
  go_wp2_with fail
  refine (HG.out _).mono ?_
  rintro e w1 ⟨rfl, rfl⟩
  clear HG
  generalize hgp : gapN zs.length al = gp at *
  have HGp := Lib.hid hgp
  clear hgp
  go_wp2_with (at_make; refine wpList_make_full _ rfl _ _ 34 rfl w1.heap.size 5 i (.int .u8 0) 1 Tryd.underlying34 hi hz0 hz1 _ _ _ _ gp rfl rfl (by omega) (by omega) (by rw [hz2]; omega) (by simp only [maxLen]; omega) (Nat.le_refl _) ?_)
  intro w2 hown hgrow
  have hr2 : Row w2 w1.heap.size (List.replicate gp 0) := row_made hown
  have hsl := hr2.sl (small_zeros gp) 0 gp gp (by simp) (Nat.le_refl _) (by unfold maxLen; omega)
  rw [List.drop_zero, List.take_of_length_le (by simp)] at hsl
  have HB1 : Hid (Below w1.heap.size w1 w2) := (Below.refl _ _).grown hgrow (Nat.le_refl _) (by simp)
  have HR2 : Hid (Rw w2 p (.slice ao zs.length cap) zs 0 base) := HW.out.keeps (S := fun _ => False) (Keeps.of_below HB1.out) id (fun _ _ => id)
  have HB := Lib.hid (rwBytes_any HR2.out hsl hl (by simp; omega) (Nat.le_trans hb HB1.out.size))
  clear hown hgrow hr2 hsl c0 c1
  go_wp2_with fail
  refine HB.out.mono ?_
  rintro e w3 ⟨rfl, v3, h3, k3, a3⟩
  have H3 : Hid (∃ v', Rw w3 p v' (zs ++ List.replicate gp 0) 0 base ∧ Keeps (Foot p (.slice ao zs.length cap)) w1 w3 ∧ At w1 (.slice ao zs.length cap) v') := by
    refine ⟨v3, h3, (Keeps.of_below (S := Foot p (.slice ao zs.length cap)) HB1.out).trans k3 (fun _ _ e => e), ?_⟩
    rcases a3 with a3 | ⟨k, a3, a4⟩
    · exact .inl a3
    · exact .inr ⟨k, a3, Nat.le_trans HB1.out.size a4⟩
  clear h3 k3 a3 HB
  go_wp2
  go_end0
  exact ⟨rfl, by rw [HGp.out]; exact H3.out⟩
set_option maxHeartbeats 1000000 in
theorem rwText_long {w : World} {p base : Nat} {v : Value} {zs : List Nat} {s : ByteArray} (h : Rw w p v zs 0 base) (hs : 65535 < s.size) (hS : s.size ≤ 140737488355328) :
    Calls Tryd.prog 39 #[.pointer (some ⟨p, 0, none⟩), .string s] w fun e w' => e = .returned (.tuple #[]) ∧ Rw w' p v zs 3 base ∧ Keeps (fun k => k = p) w w' := by
  have c1 := h.cell1
  have t1 := h.thawed 1
  have HW1 : Hid (Rw (w.setCell ⟨p, 1, none⟩ (.int .i64 3)) p v zs 3 base) := h.refuse 3
  have HN := Lib.hid (fun n s => rwNumber_not (n := n) (s := s) HW1.out (by decide))
  have hd : decide ((65535 : Int) < (s.size : Int)) = true := decide_eq_true (by omega)
  have hns : (65535 : Int) < (s.size : Int) := by omega
  obtain ⟨c, W, hcv, hsl, hbW, hlt⟩ := conv_bytes (w.setCell ⟨p, 1, none⟩ (.int .i64 3)) s hS
  have HR2 : Hid (Rw W p v zs 3 base) := HW1.out.keeps (S := fun _ => False) (Keeps.of_below hbW) id (fun _ _ => id)
  have HB := Lib.hid (fun u => rwBytes_not (u := u) HR2.out (by decide))
  have HK : Hid (Keeps (fun k => k = p) w W) := (Keeps.setCell w p 1 _).comp0 hbW
  have HSz : Hid (s.size ≤ 140737488355328) := hS
  clear h hsl hbW hlt hs hS
  go_enter Tryd.func39, Tryd.ntmps39
  go_wp2_with fail
  refine (HN.out _ _).mono ?_
  rintro e w1 ⟨rfl, rfl⟩
  go_wp2_with fail
  refine (HB.out _).mono ?_
  rintro e w2 ⟨rfl, rfl⟩
  go_wp2
  go_end0
  exact ⟨rfl, HR2.out, HK.out⟩
set_option maxHeartbeats 1000000 in
theorem rwText_not {w : World} {p base : Nat} {why : Int} {v : Value} {zs : List Nat} {s : ByteArray} (h : Rw w p v zs why base) (hw : why ≠ 0) (hS : s.size ≤ 140737488355328) :
    Calls Tryd.prog 39 #[.pointer (some ⟨p, 0, none⟩), .string s] w fun e w' => e = .returned (.tuple #[]) ∧ Below w.heap.size w w' := by
  have c1 := h.cell1
  have hb : (why == 0) = false := by simpa using hw
  have HN := Lib.hid (fun n s => rwNumber_not (n := n) (s := s) h hw)
  obtain ⟨c, W, hcv, hsl, hbW, hlt⟩ := conv_bytes w s hS
  have HR2 : Hid (Rw W p v zs why base) := h.keeps (S := fun _ => False) (Keeps.of_below hbW) id (fun _ _ => id)
  have HB := Lib.hid (fun u => rwBytes_not (u := u) HR2.out hw)
  have HK : Hid (Below w.heap.size w W) := hbW
  clear h hsl hbW hlt hS hw
  go_enter Tryd.func39, Tryd.ntmps39
  go_wp2_with fail
  refine (HN.out _ _).mono ?_
  rintro e w1 ⟨rfl, rfl⟩
  go_wp2_with fail
  refine (HB.out _).mono ?_
  rintro e w2 ⟨rfl, rfl⟩
  go_wp2
  go_end0
  exact ⟨rfl, HK.out⟩
set_option maxHeartbeats 400000 in
theorem rwPad_not {w : World} {p base : Nat} {al why : Int} {v : Value} {zs : List Nat} (h : Rw w p v zs why base) (hw : why ≠ 0) :
    Calls Tryd.prog 41 #[.pointer (some ⟨p, 0, none⟩), .int .i64 al] w fun e w' => e = .returned (.tuple #[]) ∧ w' = w := by
  have c1 := h.cell1
  have hb : (why != 0) = true := by simpa using hw
  clear h
  go_enter Tryd.func41, Tryd.ntmps41
  go_wp2
  refine bodyPost_ret (results_none rfl _ _ _) rfl ?_
  exact ⟨rfl, rfl⟩
set_option maxHeartbeats 400000 in
theorem rwPad_bad {w : World} {p base : Nat} {al : Int} {v : Value} {zs : List Nat} (h : Rw w p v zs 0 base) (ha : al < 1 ∨ 4096 < al) :
    Calls Tryd.prog 41 #[.pointer (some ⟨p, 0, none⟩), .int .i64 al] w fun e w' => e = .returned (.tuple #[]) ∧ Rw w' p v zs 1 base ∧ Keeps (fun k => k = p) w w' := by
  have c1 := h.cell1
  have t1 := h.thawed 1
  have HW : Hid (Rw w p v zs 0 base) := h
  clear h
  by_cases h0 : al < 1
  · clear ha
    go_enter Tryd.func41, Tryd.ntmps41
    go_wp2
    refine bodyPost_ret (results_none rfl _ _ _) rfl ?_
    exact ⟨rfl, HW.out.refuse 1, Keeps.setCell w p 1 _⟩
  · have h2 : 4096 < al := ha.resolve_left h0
    clear ha
    go_enter Tryd.func41, Tryd.ntmps41
    go_wp2
    refine bodyPost_ret (results_none rfl _ _ _) rfl ?_
    exact ⟨rfl, HW.out.refuse 1, Keeps.setCell w p 1 _⟩
set_option maxHeartbeats 400000 in
theorem rwSeal_not {w : World} {p base : Nat} {fr why : Int} {v : Value} {zs : List Nat} (h : Rw w p v zs why base) (hw : why ≠ 0) :
    Calls Tryd.prog 43 #[.pointer (some ⟨p, 0, none⟩), .int .i64 fr] w fun e w' => e = .returned (.tuple #[]) ∧ w' = w := by
  have c1 := h.cell1
  have hb : (why != 0) = true := by simpa using hw
  clear h
  go_enter Tryd.func43, Tryd.ntmps43
  go_wp2
  refine bodyPost_ret (results_none rfl _ _ _) rfl ?_
  exact ⟨rfl, rfl⟩
set_option maxHeartbeats 1000000 in
theorem rwSeal_bad {w : World} {p base : Nat} {fr : Int} {v : Value} {zs : List Nat} (h : Rw w p v zs 0 base) (hf : fr < 0 ∨ (zs.length : Int) < fr) :
    Calls Tryd.prog 43 #[.pointer (some ⟨p, 0, none⟩), .int .i64 fr] w fun e w' => e = .returned (.tuple #[]) ∧ Rw w' p v zs 1 base ∧ Keeps (fun k => k = p) w w' := by
  have c0 := h.cell0
  have c1 := h.cell1
  have t1 := h.thawed 1
  have HW : Hid (Rw w p v zs 0 base) := h
  obtain ⟨ao, cap, rfl, k1, k2, k3, k4, k5⟩ := h.2.1.sl h.2.2.2
  clear h k3 k4 k5
  by_cases h0 : fr < 0
  · clear hf
    go_enter Tryd.func43, Tryd.ntmps43
    go_wp2
    refine bodyPost_ret (results_none rfl _ _ _) rfl ?_
    exact ⟨rfl, HW.out.refuse 1, Keeps.setCell w p 1 _⟩
  · have h2 : (zs.length : Int) < fr := hf.resolve_left h0
    clear hf
    go_enter Tryd.func43, Tryd.ntmps43
    go_wp2
    refine bodyPost_ret (results_none rfl _ _ _) rfl ?_
    exact ⟨rfl, HW.out.refuse 1, Keeps.setCell w p 1 _⟩
set_option maxRecDepth 100000 in
set_option maxHeartbeats 2000000 in
theorem rwSeal_any {w : World} {p base fr : Nat} {v : Value} {zs : List Nat} (h : Rw w p v zs 0 base) (hf : fr ≤ zs.length) (hl : zs.length ≤ 549755813888) (hb : base ≤ w.heap.size) :
    Calls Tryd.prog 43 #[.pointer (some ⟨p, 0, none⟩), .int .i64 (fr : Int)] w fun e w' => e = .returned (.tuple #[]) ∧ ∃ v', Rw w' p v' (zs ++ Pl.le 4 (Pl.crc (zs.drop fr))) 0 base ∧ Keeps (Foot p v) w w' ∧ At w v v' := by
  have c0 := h.cell0
  have c1 := h.cell1
  have HW : Hid (Rw w p v zs 0 base) := h
  have hcl := crc_lt (drop_small h.2.2.2 fr)
  have HX := Lib.hid (rwNumber_any (s := 4) (n := Pl.crc (zs.drop fr)) h (by omega) (by omega) hl hb)
  have hsl := h.2.1.sl h.2.2.2
  obtain ⟨ao, cap, rfl, k1, k2, k3, k4, k5⟩ := id hsl
  unfold maxLen at k2
  have j0 : ¬ (fr : Int) < 0 := by omega
  have j1 : ¬ (zs.length : Int) < (fr : Int) := by omega
  have hwr : IntKind.u64.wrap (Pl.crc (zs.drop fr) : Int) = (Pl.crc (zs.drop fr) : Int) := by rw [IntKind.wrap_u64]; omega
  by_cases hc : cap = fr
  · subst hc
    have HS : Hid (Sl w (.slice ao 0 0) (zs.drop cap)) := hsl.cutEnd
    clear h k3 k4 k5 hsl
    go_enter Tryd.func43, Tryd.ntmps43
    go_wp2_with fail
    refine (refcrc_any HS.out).mono ?_
    rintro e w1 ⟨rfl, rfl⟩
    go_wp2_with fail
    refine HX.out.mono ?_
    rintro e w2 ⟨rfl, hx⟩
    have HZ := Lib.hid hx
    clear hx HX
    go_wp2
    go_end0
    exact ⟨rfl, HZ.out⟩
  · have HS : Hid (Sl w (.slice (Option.map (fun x => x.add fr) ao) (zs.length - fr) (cap - fr)) (zs.drop fr)) := hsl.cut hf
    clear h k3 k4 k5 hsl
    go_enter Tryd.func43, Tryd.ntmps43
    go_wp2_with fail
    refine (refcrc_any HS.out).mono ?_
    rintro e w1 ⟨rfl, rfl⟩
    go_wp2_with fail
    refine HX.out.mono ?_
    rintro e w2 ⟨rfl, hx⟩
    have HZ := Lib.hid hx
    clear hx HX
    go_wp2
    go_end0
    exact ⟨rfl, HZ.out⟩
end Go.Proofs.YtceljnkbkpgdjaaDoor
