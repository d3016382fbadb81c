import Derived.Test.YtddgoncbdlhhhaaGreatR22
import Derived.Test.YtddgoncbdlhhhaaGreatR30
import Derived.Test.YtddgoncbdlhhhaaGreatR16
import Derived.Test.YtddgoncbdlhhhaaGreatR04
/- The document's own Where. Own work. -/
namespace Go.Proofs.YtddgoncbdlhhhaaGreat
open Go.RowKit Go.Maps Go.Proofs.YtddgoncbdlhhhaaGreat.Sp
theorem spot_left {a : Int} : ∀ {rs : List Sp} (i : Nat), (∀ x ∈ rs, ¬ inR a x) → spotFrom a i rs = none
  | [], _, _ => rfl
  | r :: rs, i, h => by rw [spotFrom, if_neg (h r (List.mem_cons_self ..)), spot_left (i + 1) (fun x hx => h x (List.mem_cons_of_mem _ hx))]
theorem spot_hit {a : Int} : ∀ {rs : List Sp} (i k : Nat) (hk : k < rs.length), (∀ x ∈ rs.take k, ¬ inR a x) → inR a rs[k] → spotFrom a i rs = some (i + k, a - rs[k].1)
  | [], _, k, hk, _, _ => by simp at hk
  | r :: rs, i, 0, hk, _, hi => by rw [spotFrom, if_pos (show r.1 ≤ a ∧ a < r.1 + r.2 from hi)]; rfl
  | r :: rs, i, k + 1, hk, h, hi => by
    rw [spotFrom, if_neg (h r (by simp)), spot_hit (i + 1) k (by simpa using hk) (fun x hx => h x (by simp [hx])) hi]
    simp only [List.getElem_cons_succ]
    congr 2
    omega
theorem where_none {rs ds : List Sp} {a : Int} (h : ∀ x ∈ rs ++ ds, ¬ inR a x) : whereV rs ds a = spotV 2 none := by
  rw [whereV, spot_left 0 (fun x hx => h x (List.mem_append_left _ hx))]
  show spotV 2 (spotFrom a 0 ds) = _
  rw [spot_left 0 (fun x hx => h x (List.mem_append_right _ hx))]
theorem where_ram {rs ds : List Sp} {a : Int} {k : Nat} (hk : k < (rs ++ ds).length) (hr : k < rs.length) (h : ∀ x ∈ (rs ++ ds).take k, ¬ inR a x) (hi : inR a (rs ++ ds)[k]) : whereV rs ds a = spotV 1 (some (k, a - (rs ++ ds)[k].1)) := by
  rw [List.getElem_append_left hr] at hi ⊢
  rw [whereV, spot_hit 0 k hr (fun x hx => h x (by rw [List.take_append]; exact List.mem_append_left _ hx)) hi, Nat.zero_add]
theorem where_dev {rs ds : List Sp} {a : Int} {k : Nat} (hk : k < (rs ++ ds).length) (hr : ¬ k < rs.length) (h : ∀ x ∈ (rs ++ ds).take k, ¬ inR a x) (hi : inR a (rs ++ ds)[k]) : whereV rs ds a = spotV 2 (some (k - rs.length, a - (rs ++ ds)[k].1)) := by
  have hk2 : k - rs.length < ds.length := by rw [List.length_append] at hk; omega
  rw [List.getElem_append_right (by omega)] at hi ⊢
  have ht : (rs ++ ds).take k = rs ++ ds.take (k - rs.length) := by rw [List.take_append, List.take_of_length_le (by omega)]
  rw [ht] at h
  rw [whereV, spot_left 0 (fun x hx => h x (List.mem_append_left _ hx))]
  show spotV 2 (spotFrom a 0 ds) = _
  rw [spot_hit 0 (k - rs.length) hk2 (fun x hx => h x (List.mem_append_right _ hx)) hi, Nat.zero_add]
theorem spotV_some (kind : Int) (i : Nat) (o : Int) : spotV kind (some (i, o)) = .tuple #[.agg #[.int .i64 kind, .int .i64 (i : Int), .int .u64 o], .bool true] := rfl
set_option maxRecDepth 100000 in
set_option maxHeartbeats 8000000 in
theorem rwhere_any {w : World} {m : Nat} {vr vd vp : Value} {rs ds : List Sp} {L S X : Nat} {a : Int} (h : RBox w m vr vd vp L S X) (hr : U64.SV w vr rs) (hd : U64.SV w vd ds) (hs : Sane (rs ++ ds)) (hl : rs.length + ds.length ≤ 64) (ha : 0 ≤ a ∧ a ≤ 18446744073709551615) :
    Calls Tryz.prog 63 #[.pointer (some ⟨m, 0, none⟩), .int .u64 a] w fun e w' => e = .returned (whereV rs ds a) ∧ Below w.heap.size w w' := by
  have HB0 : Hid (Below w.heap.size w (w.alloc (Obj.cells #[.int .i64 0, .int .i64 0, .int .u64 0] 131))) := (Below.refl _ _).alloc (Nat.le_refl _) _
  have HX0 : Hid (Box3 (w.alloc (Obj.cells #[.int .i64 0, .int .i64 0, .int .u64 0] 131)) w.heap.size (.int .i64 0) (.int .i64 0) (.int .u64 0)) := heap_alloc_new w _
  have HM0 : Hid (RBox (w.alloc (Obj.cells #[.int .i64 0, .int .i64 0, .int .u64 0] 131)) m vr vd vp L S X) := h.below HB0.out
  have HAl : Hid (Calls Tryz.prog 44 #[.agg #[vr, vd]] (w.alloc (Obj.cells #[.int .i64 0, .int .i64 0, .int .u64 0] 131)) fun e w' => ∃ a n c, e = .returned (.slice a n c) ∧ Hid (Below (w.heap.size + 1) (w.alloc (Obj.cells #[.int .i64 0, .int .i64 0, .int .u64 0] 131)) w') ∧ Hid (U64.SV w' (.slice a n c) (rs ++ ds)) ∧ Hid (∀ j, (Value.slice a n c).ownBlock = some j → w.heap.size + 1 ≤ j)) := by
    refine (all_any (hr.below HB0.out (Nat.le_refl _)) (hd.below HB0.out (Nat.le_refl _)) (by omega)).mono ?_
    rintro e w' ⟨a, n, c, rfl, hb, hs, hj⟩
    exact ⟨a, n, c, rfl, hb.out.mono (by simp), hs, fun j e => by have := hj.out j e; simp at this; exact this⟩
  have HS : Hid (Sane (rs ++ ds)) := hs
  obtain ⟨ar, cr, rfl, hcr, hmr, _, _, _⟩ := hr
  unfold maxLen at hmr
  obtain ⟨c0, c1, _, _, _, _⟩ := HM0.out.cells
  have hml0 : m < w.heap.size := h.lt
  have hl2 : (rs ++ ds).length ≤ 64 := by rw [List.length_append]; exact hl
  have HLr : Hid (rs.length ≤ (rs ++ ds).length) := by show _ ≤ _; rw [List.length_append]; omega
  obtain ⟨ha0, ha1⟩ := ha
  have HWn : Hid ((∀ x ∈ rs ++ ds, ¬ inR a x) → whereV rs ds a = spotV 2 none) := where_none
  have HWr : Hid (∀ k (hk : k < (rs ++ ds).length), k < rs.length → (∀ x ∈ (rs ++ ds).take k, ¬ inR a x) → inR a (rs ++ ds)[k] → whereV rs ds a = spotV 1 (some (k, a - (rs ++ ds)[k].1))) := fun k hk => where_ram hk
  have HWd : Hid (∀ k (hk : k < (rs ++ ds).length), ¬ k < rs.length → (∀ x ∈ (rs ++ ds).take k, ¬ inR a x) → inR a (rs ++ ds)[k] → whereV rs ds a = spotV 2 (some (k - rs.length, a - (rs ++ ds)[k].1))) := fun k hk => where_dev hk
  generalize rs ++ ds = LL at *
  clear h hd hs hl
  go_enter Tryz.func63, Tryz.ntmps63
  go_wp2_with fail
  refine HAl.out.mono ?_
  rintro e w1 ⟨al, nl, cl, rfl, HB1, HS1, HJ1⟩
  obtain ⟨al', cl', ev, hcl, hml, _⟩ := id HS1.out
  simp only [Value.slice.injEq] at ev
  obtain ⟨rfl, hnl, rfl⟩ := ev
  have HN : Hid (nl = LL.length) := hnl
  have hn40 : nl ≤ 64 := by rw [hnl]; exact hl2
  have hcl' : nl ≤ cl := by rw [hnl]; exact hcl
  have HBw : Hid (Below w.heap.size w w1) := HB0.out.trans (HB1.out.mono (Nat.le_succ _))
  have HX1 : Hid (Box3 w1 w.heap.size (.int .i64 0) (.int .i64 0) (.int .u64 0)) := (HB1.out.block w.heap.size (Nat.lt_succ_self _)).trans HX0.out
  have HM1 : Hid (RBox w1 m (.slice ar rs.length cr) vd vp L S X) := (HB1.out.block m (Nat.lt_succ_of_lt hml0)).trans HM0.out
  unfold maxLen at hml
  clear hnl hcl HAl c0 c1 hl2
  go_wp2_with fail
  go_loopw [7] (fun kv wr => ∃ k : Nat, k ≤ nl ∧ kv = .int .i64 (k : Int) ∧ Hid (∀ x ∈ LL.take k, ¬ inR a x) ∧ Hid (Below w1.heap.size w1 wr)) (fun kv _ => nl - (intOf kv).toNat)
  case atStart => exact ⟨0, Nat.zero_le _, rfl, fun x hx => by simp at hx, Below.refl _ _⟩
  case round =>
    obtain ⟨k, hk, rfl, HI, HB⟩ := hrel
    have HX : Hid (Box3 wr w.heap.size (.int .i64 0) (.int .i64 0) (.int .u64 0)) := (HB.out.block w.heap.size (Array.getElem?_eq_some_iff.1 HX1.out).1).trans HX1.out
    have HBe : Hid (Below w.heap.size w wr) := HBw.out.trans (HB.out.mono HBw.out.size)
    obtain ⟨x0, x1, x2, f0, f1, f2⟩ := HX.out.cells
    by_cases hlt : k < nl
    · have hkL : k < LL.length := by rw [← HN.out]; exact hlt
      have hsan := HS.out LL[k] (List.getElem_mem _)
      have HTk : Hid (LL.take (k + 1) = LL.take k ++ [LL[k]]) := List.take_succ_eq_append_getElem hkL
      have HWr2 := Lib.hid (HWr.out k hkL)
      have HWd2 := Lib.hid (HWd.out k hkL)
      obtain ⟨_, _, e, _, _, _, _, h5⟩ := HS1.out.below HB.out (Nat.le_refl _)
      simp only [Value.slice.injEq] at e
      obtain ⟨rfl, hzz, rfl⟩ := e
      clear hzz
      obtain ⟨g, off, rfl, d0, d1⟩ := h5 k hkL
      clear h5
      generalize LL[k] = xx at *
      obtain ⟨b, s⟩ := xx
      simp only at d0 d1 hsan
      obtain ⟨b0, b1, b2⟩ := hsan
      have jk : (k : Int) < (nl : Int) := by omega
      obtain ⟨c0, c1, _, _, _, _⟩ := (HM1.out.below HB.out).cells
      by_cases q1 : b ≤ a
      · have q1d : decide (b ≤ a) = true := decide_eq_true q1
        by_cases q2 : a - b < s
        · have q2d : decide (a - b < s) = true := decide_eq_true q2
          have hin : inR a (b, s) := ⟨q1, by show a < b + s; omega⟩
          by_cases hr : k < rs.length
          · have HE : Hid (whereV rs ds a = .tuple #[.agg #[.int .i64 1, .int .i64 (k : Int), .int .u64 (a - b)], .bool true]) := HWr2.out hr HI.out hin
            have hrd : (k : Int) < (rs.length : Int) := by omega
            clear HWr2 HWd2 HTk hin
            go_wp2_with fail
            go_quiet (fail)
            go_wp2_with fail
            obtain ⟨e0, e1, e2, _⟩ := Box3.cells (w := (((wr.drewN nq).setCell ⟨w.heap.size, 0, none⟩ (.int .i64 1)).setCell ⟨w.heap.size, 1, none⟩ (.int .i64 (k : Int))).setCell ⟨w.heap.size, 2, none⟩ (.int .u64 (a - b))) (Box3.set (w := wr.drewN nq) HX.out (.int .i64 1) (.int .i64 (k : Int)) (.int .u64 (a - b)))
            refine bodyPost_ret (v := .tuple #[.agg #[.int .i64 1, .int .i64 (k : Int), .int .u64 (a - b)], .bool true]) (by simp [results, Tryz.results63, go_sem, e0, e1, e2]) rfl ?_
            exact ⟨by rw [HE.out], (((U64.below_drewN' HBe.out _).setCell (p := ⟨w.heap.size, 0, none⟩) (Nat.le_refl _) _).setCell (p := ⟨w.heap.size, 1, none⟩) (Nat.le_refl _) _).setCell (p := ⟨w.heap.size, 2, none⟩) (Nat.le_refl _) _⟩
          · have HE : Hid (whereV rs ds a = .tuple #[.agg #[.int .i64 2, .int .i64 ((k - rs.length : Nat) : Int), .int .u64 (a - b)], .bool true]) := HWd2.out hr HI.out hin
            obtain ⟨r, hrr⟩ : ∃ r, r = rs.length := ⟨_, rfl⟩
            rw [← hrr] at c0 HE hr hcr
            clear hrr
            have hrk : r ≤ k := by omega
            have hrd : decide ((k : Int) < (r : Int)) = false := decide_eq_false (by omega)
            have hwr : IntKind.i64.wrap ((k : Int) - (r : Int)) = ((k - r : Nat) : Int) := by rw [IntKind.wrap_i64]; omega
            have hnn : ¬ (k : Int) < (r : Int) := by omega
            have hwa : IntKind.u64.wrap (a - b) = a - b := U64.wrap_in (by omega) (by omega)
            have hgn : g ≠ w.heap.size := by have := HJ1.out g rfl; omega
            have hmn : m ≠ w.heap.size := by omega
            clear HWr2 HWd2 HTk hin
            go_wp2_with fail
            go_quiet (fail)
            go_wp2_with fail
            go_region_held3 (fun w' => w'.cell? ⟨m, 0, none⟩ = some (.slice ar r cr) ∧ w'.cell? ⟨g, off + k * 2, none⟩ = some (.int .u64 b)) (first | exact ⟨(U64.set_other hmn).trans ((U64.set_other hmn).trans ((U64.set_other hmn).trans c0)), (U64.set_other hgn).trans ((U64.set_other hgn).trans ((U64.set_other hgn).trans d0))⟩ | go_keep) (fail)
            go_wp2_with fail
            obtain ⟨e0, e1, e2, _⟩ := Box3.cells (w := (((wr.drewN (nq + 1)).setCell ⟨w.heap.size, 0, none⟩ (.int .i64 2)).setCell ⟨w.heap.size, 1, none⟩ (.int .i64 ((k - r : Nat) : Int))).setCell ⟨w.heap.size, 2, none⟩ (.int .u64 (a - b))) (Box3.set (w := wr.drewN (nq + 1)) HX.out (.int .i64 2) (.int .i64 ((k - r : Nat) : Int)) (.int .u64 (a - b)))
            refine bodyPost_ret (v := .tuple #[.agg #[.int .i64 2, .int .i64 ((k - r : Nat) : Int), .int .u64 (a - b)], .bool true]) (by simp [results, Tryz.results63, go_sem, e0, e1, e2]) rfl ?_
            exact ⟨by rw [HE.out], (((U64.below_drewN' HBe.out _).setCell (p := ⟨w.heap.size, 0, none⟩) (Nat.le_refl _) _).setCell (p := ⟨w.heap.size, 1, none⟩) (Nat.le_refl _) _).setCell (p := ⟨w.heap.size, 2, none⟩) (Nat.le_refl _) _⟩
        · have q2d : decide (a - b < s) = false := decide_eq_false q2
          have HIn : Hid (∀ x ∈ LL.take (k + 1), ¬ inR a x) := fun x hx => by
            rw [HTk.out] at hx
            rcases List.mem_append.1 hx with hx | hx
            · exact HI.out x hx
            · rw [List.mem_singleton.1 hx]; simp only [inR]; omega
          clear HWr2 HWd2 HTk
          go_wp2_with fail
          go_quiet (fail)
          go_wp2_with fail
          go_roundw
          case rel => exact ⟨k + 1, by omega, by go_num, HIn, U64.below_drewN' HB.out _⟩
          case measure => simp [intOf]; omega
      · have q1d : decide (b ≤ a) = false := decide_eq_false q1
        have HIn : Hid (∀ x ∈ LL.take (k + 1), ¬ inR a x) := fun x hx => by
            rw [HTk.out] at hx
            rcases List.mem_append.1 hx with hx | hx
            · exact HI.out x hx
            · rw [List.mem_singleton.1 hx]; simp only [inR]; omega
        clear HWr2 HWd2 HTk
        go_wp2_with fail
        go_quiet (fail)
        go_wp2_with fail
        go_roundw
        case rel => exact ⟨k + 1, by omega, by go_num, HIn, U64.below_drewN' HB.out _⟩
        case measure => simp [intOf]; omega
    · obtain rfl : k = nl := by omega
      have HE : Hid (whereV rs ds a = .tuple #[.agg #[.int .i64 0, .int .i64 0, .int .u64 0], .bool false]) := HWn.out (fun x hx => HI.out x (by rw [HN.out, List.take_length]; exact hx))
      go_wp2_with fail
      obtain ⟨e0, e1, e2, _⟩ := Box3.cells (Box3.set HX.out (.int .i64 0) (.int .i64 0) (.int .u64 0))
      refine bodyPost_ret (v := .tuple #[.agg #[.int .i64 0, .int .i64 0, .int .u64 0], .bool false]) (by simp [results, Tryz.results63, go_sem, e0, e1, e2]) rfl ?_
      exact ⟨by rw [HE.out], ((HBe.out.setCell (p := ⟨w.heap.size, 0, none⟩) (Nat.le_refl _) _).setCell (p := ⟨w.heap.size, 1, none⟩) (Nat.le_refl _) _).setCell (p := ⟨w.heap.size, 2, none⟩) (Nat.le_refl _) _⟩
end Go.Proofs.YtddgoncbdlhhhaaGreat
/- askCount, Read. Own work. -/
namespace Go.Proofs.YtddgoncbdlhhhaaGreat
open Go.RowKit Go.Maps Go.Proofs.YtddgoncbdlhhhaaGreat.Sp
set_option maxRecDepth 100000 in
set_option maxHeartbeats 4000000 in
theorem askCount_any {w : World} {m B : Nat} {V : Value × Value × Value} {T : Nat → Option Nat} {M : Nat → Nat} {rs ds : List Sp} {L S X a n : Nat} (h : Mac w m B V T M rs ds L S X) (ha : a ≤ 18446744073709551615) (hn : n ≤ 9223372036854775807) (hX : X ≤ 4611686018427387904) :
    Calls Tryz.prog 60 #[.pointer (some ⟨m, 0, none⟩), .int .u64 (a : Int), .int .i64 (n : Int)] w (AskPost w m B V T M rs ds L S X a n) := by
  have HA : Hid (∀ W, Below w.heap.size w W → Calls Tryz.prog 83 #[.pointer (some ⟨m, 0, none⟩), .int .u64 (a : Int), .int .i64 (n : Int)] W (AskPost W m B V T M rs ds L S X a n)) := fun W hW => ask_any (h.below hW) ha hn hX
  have HM : Hid (Mac w m B V T M rs ds L S X) := h
  have hml := h.lt
  clear h
  go_enter Tryz.func60, Tryz.ntmps60
  go_wp2_with fail
  refine (HA.out _ ((Below.refl _ _).alloc (Nat.le_refl _) _)).mono ?_
  rintro e w1 ⟨x, b, ho, rfl, hm1, hk1⟩
  have HOff : Hid (OffR (rs ++ ds) a n x b) := ho
  have HX1 : Hid (BoxF w1 w.heap.size 0 0) := (BoxF.new w 0 0).keeps hk1 (by omega)
  have HM1 : Hid (Mac w1 m B V T M rs ds L S (up b X)) := hm1
  have HK1 : Hid (Keeps (fun j => j = m) w w1) := (Keeps.alloc (S := fun j => j = m) w _).trans hk1 (fun _ _ e => e)
  obtain ⟨x0, x1, f0, f1⟩ := HX1.out.cells
  clear ho hm1 hk1 HA
  unfold FaultV
  obtain ⟨why, hwhy⟩ : ∃ why, why = (if b = true then (30 : Int) else 0) := ⟨_, rfl⟩
  have HWhy : Hid (why = (if b = true then (30 : Int) else 0)) := hwhy
  rw [← hwhy]
  clear hwhy
  go_wp2_with fail
  obtain ⟨d0, d1, _⟩ := (HX1.out.set why x).cells
  refine bodyPost_ret (v := .agg #[.int .i64 why, .int .u64 x]) (by simp [results, Tryz.results60, go_sem, d0, d1]) rfl ?_
  have hk2 := Keeps.two w1 w.heap.size (.int .i64 why) (.int .u64 x)
  exact ⟨x, b, HOff.out, by rw [HWhy.out]; rfl, HM1.out.keeps hk2 (fun j hj e => by have := HM.out.mine_lt hj; omega), HK1.out.trans hk2 (fun i hi e => absurd e (by omega))⟩
/-- Read of bytes that are on the bus -/
def ReadPost (w : World) (m B : Nat) (V : Value × Value × Value) (T : Nat → Option Nat) (M : Nat → Nat) (rs ds : List Sp) (L S X a n : Nat) (e : Ending) (w' : World) : Prop :=
  ∃ g, e = .returned (.tuple #[.slice (some ⟨g, 0, none⟩) n n, FaultV 0 0]) ∧ RowT w' 5 g (bytesAt M a n) ∧ w.heap.size ≤ g ∧ Mac w' m B V T M rs ds L S X ∧ Keeps (fun j => j = m) w w'
theorem rdTo_all (M : Nat → Nat) (a n : Nat) : rdTo M a n n = bytesAt M a n := by simp [rdTo]
set_option maxRecDepth 100000 in
set_option maxHeartbeats 4000000 in
theorem read_ok {w : World} {m B : Nat} {V : Value × Value × Value} {T : Nat → Option Nat} {M : Nat → Nat} {rs ds : List Sp} {L S X a n : Nat} (h : Mac w m B V T M rs ds L S X) (ha : a ≤ 18446744073709551615) (hn : 0 < n ∧ n ≤ 1099511627776) (hX : X ≤ 4611686018427387904) (hon : ∀ i, i < n → On (rs ++ ds) ((a : Int) + (i : Nat))) :
    Calls Tryz.prog 33 #[.pointer (some ⟨m, 0, none⟩), .int .u64 (a : Int), .int .i64 (n : Int)] w (ReadPost w m B V T M rs ds L S X a n) := by
  have HA : Hid (∀ W, Below w.heap.size w W → Calls Tryz.prog 60 #[.pointer (some ⟨m, 0, none⟩), .int .u64 (a : Int), .int .i64 (n : Int)] W fun e w' => e = .returned (.agg #[.int .i64 0, .int .u64 0]) ∧ Hid (OffR (rs ++ ds) a n 0 false) ∧ Hid (Mac w' m B V T M rs ds L S X) ∧ Hid (Keeps (fun j => j = m) W w')) := fun W hW => by
    refine (askCount_any (h.below hW) ha (by omega) hX).mono ?_
    rintro e w' ⟨x, b, ho, rfl, h1, h2⟩
    have hb : b = false := by
      cases b with
      | false => rfl
      | true =>
        obtain ⟨i, h3, _, _, h4, _⟩ := ho.1 rfl
        exact absurd (hon i h3) h4
    subst hb
    have hx := (ho.2 rfl).1
    subst hx
    exact ⟨rfl, ho, h1, h2⟩
  have HM : Hid (Mac w m B V T M rs ds L S X) := h
  have hml := h.lt
  obtain ⟨i, hi, hz0, hz1, hz2⟩ := info_parts info_byte
  clear h hon
  go_enter Tryz.func33, Tryz.ntmps33
  go_wp2_with fail
  refine (HA.out _ ((Below.refl _ _).alloc (Nat.le_refl _) _)).mono ?_
  rintro e w1 ⟨rfl, HOff, HM1, HK0⟩
  have HX1 : Hid (BoxF w1 w.heap.size 0 0) := (BoxF.new w 0 0).keeps HK0.out (by omega)
  have HK1 : Hid (Keeps (fun j => j = m) w w1) := (Keeps.alloc (S := fun j => j = m) w _).trans HK0.out (fun _ _ e => e)
  obtain ⟨x0, x1, f0, f1⟩ := HX1.out.cells
  clear HA HK0
  have HRange : Hid (a + n ≤ 4294967296) := off_low HOff.out HM.out hn.1
  have hlt1 := HX1.out.lt
  go_wp2_with (at_make; refine wpList_make_full _ rfl _ _ 27 rfl (w1.heap.size + 1) 5 i (.int .u8 0) 1 Tryz.underlying27 hi hz0 hz1 _ _ _ _ n rfl rfl (by omega) (by omega) (by rw [hz2]; omega) (by simp only [maxLen]; omega) (by simp) ?_)
  intro w2 hown hgrow
  have HR2 : Hid (RowT w2 5 (w1.heap.size + 1) (List.replicate n 0)) := row_made hown
  have HB2 : Hid (Below w1.heap.size w1 w2) := ((Below.refl _ _).alloc (Nat.le_refl _) _).grown hgrow (by simp) (by simp)
  have HM2 : Hid (Mac w2 m B V T M rs ds L S X) := HM1.out.below HB2.out
  have HX2 : Hid (BoxF w2 w.heap.size 0 0) := HX1.out.below HB2.out
  clear hown hgrow x0 x1 f0 f1 hi hz0 hz1 hz2
  obtain ⟨_, _, _, c6, _⟩ := HM2.out.cells
  have HRd : Hid (Calls Tryz.prog 47 #[.map (some B), .int .u64 (a : Int), .slice (some ⟨w1.heap.size + 1, 0, none⟩) n n] w2 fun e w' => e = .returned (.tuple #[]) ∧ RowT w' 5 (w1.heap.size + 1) (rdTo M a n n) ∧ Keeps (fun j => j = w1.heap.size + 1) w2 w') :=
    read_any HM2.out.held HRange.out HR2.out (fun hf => by have := HM1.out.held.foot_lt hf; omega) (Nat.le_refl _) (Nat.le_refl _) (by unfold maxLen; omega)
  go_wp2_with (first | (go_at_call 47; refine HRd.out.mono ?_; rintro e w3 ⟨rfl, hr3, hk3⟩; have HR3 : Hid (RowT w3 5 (w1.heap.size + 1) (rdTo M a n n)) := hr3; have HK3 : Hid (Keeps (fun j => j = w1.heap.size + 1) w2 w3) := hk3; have HX3 : Hid (BoxF w3 w.heap.size 0 0) := HX2.out.keeps HK3.out (by omega); obtain ⟨x0, x1, f0, f1⟩ := HX3.out.cells; clear hr3 hk3 HRd c6))
  obtain ⟨d0, d1, _⟩ := (HX3.out.set 0 0).cells
  refine bodyPost_ret (v := .tuple #[.slice (some ⟨w1.heap.size + 1, 0, none⟩) n n, .agg #[.int .i64 0, .int .u64 0]]) (by simp [results, Tryz.results33, go_sem, d0, d1]) rfl ?_
  have hk2 := Keeps.two w3 w.heap.size (.int .i64 0) (.int .u64 0)
  have hr := HR3.out
  rw [rdTo_all] at hr
  refine ⟨_, rfl, (hk2.block (w1.heap.size + 1) (Array.getElem?_eq_some_iff.1 hr).1 (by show ¬ _; omega)).trans hr, by omega, (HM2.out.keeps HK3.out (fun j hj e => ?_)).keeps hk2 (fun j hj e => ?_), ((HK1.out.trans (Keeps.of_below (S := fun _ => False) HB2.out) (fun _ _ h => h.elim)).trans HK3.out (fun i hi e => absurd e ?_)).trans hk2 (fun i hi e => absurd e (by omega))⟩
  · have := HM.out.mine_lt hj; omega
  · have := HM.out.mine_lt hj; omega
  · omega
end Go.Proofs.YtddgoncbdlhhhaaGreat
/- Fill, Write of a machine. Own work. -/
namespace Go.Proofs.YtddgoncbdlhhhaaGreat
open Go.RowKit Go.Maps Go.Proofs.YtddgoncbdlhhhaaGreat.Sp
set_option maxRecDepth 100000 in
set_option maxHeartbeats 4000000 in
theorem fill_zero {w : World} {B : Nat} {T : Nat → Option Nat} {M : Nat → Nat} {a z : Nat} (h : Held w B T M) :
    Calls Tryz.prog 61 #[.map (some B), .int .u64 (a : Int), .int .i64 0, .int .u8 (z : Int)] w (LaidPost w B T M) := by
  have HH : Hid (Held w B T M) := h
  have HR : Hid (∀ W b, Calls Tryz.prog 90 #[.slice (some ⟨b, 0, none⟩) 1 1, .int .i64 0] W fun e w' => ∃ v, e = .returned v ∧ Below W.heap.size W w') := fun W b => repeat_zero
  clear h
  go_enter Tryz.func61, Tryz.ntmps61
  go_wp2_with fail
  refine (HR.out _ _).mono ?_
  rintro e w1 ⟨v, rfl, hb1⟩
  have HB1 : Hid (Below w.heap.size w w1) := ((Below.refl _ _).alloc (Nat.le_refl _) _).trans (hb1.mono (by simp))
  clear hb1
  go_wp2_with fail
  go_loopw [1, 2] (fun _ y wr => y = .int .i64 0 ∧ wr = w1) (fun _ _ _ => 0)
  case atStart => exact ⟨rfl, rfl⟩
  case round =>
    obtain ⟨rfl, hw⟩ := hrel
    have hw := hw.symm
    subst hw
    go_wp2_with fail
    go_end0
    exact ⟨rfl, T, HH.out.below HB1.out, Keeps.of_below HB1.out, Grows.refl _ _⟩
set_option maxRecDepth 100000 in
set_option maxHeartbeats 4000000 in
theorem lay_none {w : World} {B : Nat} {T : Nat → Option Nat} {M : Nat → Nat} {a cap : Nat} {ao : Option Addr} (h : Held w B T M) :
    Calls Tryz.prog 52 #[.map (some B), .int .u64 (a : Int), .slice ao 0 cap] w (LaidPost w B T M) := by
  have HH : Hid (Held w B T M) := h
  clear h
  go_enter Tryz.func52, Tryz.ntmps52
  go_wp2_with fail
  go_loopw [1, 2] (fun _ y wr => y = .slice ao 0 cap ∧ wr = w) (fun _ _ _ => 0)
  case atStart => exact ⟨rfl, rfl⟩
  case round =>
    obtain ⟨rfl, hw⟩ := hrel
    have hw := hw.symm
    subst hw
    go_wp2_with fail
    go_end0
    exact ⟨rfl, T, HH.out, Keeps.refl _ _, Grows.refl _ _⟩
theorem sl_own_lt {w : World} {b o n cap : Nat} {zs : List Nat} (h : Sl w (.slice (some ⟨b, o, none⟩) n cap) zs) (hz : 0 < zs.length) : b < w.heap.size := by
  obtain ⟨ao, cap', e, _, _, _, _, h5⟩ := h
  obtain ⟨b', o', e2, hc⟩ := h5 0 hz
  injection e with e1
  rw [e2] at e1
  injection e1 with e1
  injection e1 with e1
  rw [e1]
  exact World.block_lt_of_cell? w _ hc
theorem sl_keeps {Z : Nat → Prop} {w w' : World} {ao : Option Addr} {n cap : Nat} {zs : List Nat} (hn : n = zs.length) (h : Sl w (.slice ao n cap) zs) (hk : Keeps Z w w') (hz : 0 < n → ∀ j, (Value.slice ao n cap).ownBlock = some j → ¬ Z j) : Sl w' (.slice ao n cap) zs := by
  by_cases h0 : 0 < n
  · exact h.keeps hk (hz h0)
  · obtain rfl : zs = [] := List.eq_nil_of_length_eq_zero (by omega)
    obtain ⟨ao', cap', e, h1, h2, h3, h4, h5⟩ := h
    exact ⟨ao', cap', e, h1, h2, h3, h4, fun i hi => by simp at hi⟩
theorem fill_all {w : World} {B : Nat} {T : Nat → Option Nat} {M : Nat → Nat} {a z N : Nat} (h : Held w B T M) (ha : 0 < N → a + N ≤ 4294967296) (hz : z < 256) :
    Calls Tryz.prog 61 #[.map (some B), .int .u64 (a : Int), .int .i64 (N : Int), .int .u8 (z : Int)] w (LaidPost w B T (putAt M a (List.replicate N z))) := by
  by_cases hN : 0 < N
  · exact fill_any h (ha hN) hz hN
  · obtain rfl : N = 0 := by omega
    rw [List.replicate_zero, putAt_nil]
    exact fill_zero h
theorem lay_all {w : World} {B : Nat} {T : Nat → Option Nat} {M : Nat → Nat} {a n cap : Nat} {ao : Option Addr} {zs : List Nat} (h : Held w B T M) (hn : n = zs.length) (ha : 0 < n → a + n ≤ 4294967296) (hs : Sl w (.slice ao n cap) zs) (hb : 0 < n → ∀ j, (Value.slice ao n cap).ownBlock = some j → ¬ Foot B T j) :
    Calls Tryz.prog 52 #[.map (some B), .int .u64 (a : Int), .slice ao n cap] w (LaidPost w B T (putAt M a zs)) := by
  subst hn
  by_cases hN : 0 < zs.length
  · obtain ⟨b, o, cap', e, _, _, _⟩ := hs.pos hN
    cases e
    exact lay_some h (ha hN) hs (hb hN b rfl) (sl_own_lt hs hN)
  · obtain rfl : zs = [] := List.eq_nil_of_length_eq_zero (by omega)
    rw [putAt_nil]
    exact lay_none h
def FillPost (w : World) (m B : Nat) (V : Value × Value × Value) (T : Nat → Option Nat) (M M' : Nat → Nat) (rs ds : List Sp) (L S X a n : Nat) (e : Ending) (w' : World) : Prop :=
  ∃ x b, OffR (rs ++ ds) a n x b ∧ e = .returned (FaultV (if b then 30 else 0) x) ∧ Keeps (fun j => j = m ∨ Foot B T j) w w' ∧ (b = true → Mac w' m B V T M rs ds L S (X + 1)) ∧ (b = false → ∃ T', Mac w' m B V T' M' rs ds L S X ∧ Grows w.heap.size T T')
set_option maxRecDepth 100000 in
set_option maxHeartbeats 4000000 in
theorem fillM_any {w : World} {m B : Nat} {V : Value × Value × Value} {T : Nat → Option Nat} {M : Nat → Nat} {rs ds : List Sp} {L S X a n z : Nat} (h : Mac w m B V T M rs ds L S X) (ha : a ≤ 18446744073709551615) (hn : n ≤ 9223372036854775807) (hz : z < 256) (hX : X ≤ 4611686018427387904) :
    Calls Tryz.prog 27 #[.pointer (some ⟨m, 0, none⟩), .int .u64 (a : Int), .int .i64 (n : Int), .int .u8 (z : Int)] w (FillPost w m B V T M (putAt M a (List.replicate n z)) rs ds L S X a n) := by
  have HA : Hid (∀ W, Below w.heap.size w W → Calls Tryz.prog 60 #[.pointer (some ⟨m, 0, none⟩), .int .u64 (a : Int), .int .i64 (n : Int)] W (AskPost W m B V T M rs ds L S X a n)) := fun W hW => askCount_any (h.below hW) ha hn hX
  have HM : Hid (Mac w m B V T M rs ds L S X) := h
  have hml := h.lt
  clear h
  go_enter Tryz.func27, Tryz.ntmps27
  go_wp2_with fail
  refine (HA.out _ ((Below.refl _ _).alloc (Nat.le_refl _) _)).mono ?_
  rintro e w1 ⟨x, b, ho, rfl, hm1, hk1⟩
  have HOff : Hid (OffR (rs ++ ds) a n x b) := ho
  have HX1 : Hid (BoxF w1 w.heap.size 0 0) := (BoxF.new w 0 0).keeps hk1 (by omega)
  have HM1 : Hid (Mac w1 m B V T M rs ds L S (up b X)) := hm1
  have HK1 : Hid (Keeps (fun j => j = m) w w1) := (Keeps.alloc (S := fun j => j = m) w _).trans hk1 (fun _ _ e => e)
  have hne : w.heap.size ≠ w1.heap.size := Nat.ne_of_lt HX1.out.lt
  have hlt1 := HX1.out.lt
  clear ho hm1 hk1 HA
  unfold FaultV
  cases b with
  | true =>
    simp only [if_true]
    obtain ⟨x0, x1, f0, f1⟩ := HX1.out.cells
    have y0 := fun X => (HX1.out.below ((Below.refl _ _).alloc (Nat.le_refl _) X)).cells.1
    have y1 := fun X => (HX1.out.below ((Below.refl _ _).alloc (Nat.le_refl _) X)).cells.2.1
    have y2 := fun X => (HX1.out.below ((Below.refl _ _).alloc (Nat.le_refl _) X)).cells.2.2.1
    have y3 := fun X => (HX1.out.below ((Below.refl _ _).alloc (Nat.le_refl _) X)).cells.2.2.2
    go_wp2_with fail
    have hbx := (HX1.out.set 30 x).below ((Below.refl _ _).alloc (Nat.le_refl _) (Obj.cells #[.int .i64 30, .int .u64 x] 71))
    obtain ⟨d0, d1, _⟩ := hbx.cells
    refine bodyPost_ret (v := .agg #[.int .i64 30, .int .u64 x]) (by simp [results, Tryz.results27, go_sem, d0, d1]) rfl ?_
    have hk2 : Keeps (fun j => j = w.heap.size) w1 (((w1.setCell ⟨w.heap.size, 0, none⟩ (.int .i64 30)).setCell ⟨w.heap.size, 1, none⟩ (.int .u64 x)).alloc (Obj.cells #[.int .i64 30, .int .u64 x] 71)) := (Keeps.two w1 w.heap.size (.int .i64 30) (.int .u64 x)).trans (Keeps.alloc (S := fun _ => False) _ _) (fun _ _ h => h.elim)
    exact ⟨x, true, HOff.out, rfl, (HK1.out.mono (fun _ _ e => .inl e)).trans hk2 (fun i hi e => absurd e (by omega)), fun _ => HM1.out.keeps hk2 (fun j hj e => by have := HM.out.mine_lt hj; omega), fun h => by cases h⟩
  | false =>
    simp only [Bool.false_eq_true, if_false]
    have HLow : Hid (0 < n → a + n ≤ 4294967296) := fun h0 => off_low HOff.out HM.out h0
    have HXz : Hid (x = 0) := (HOff.out.2 rfl).1
    obtain ⟨x0, x1, f0, f1⟩ := HX1.out.cells
    have c6 := fun X => U64.cell_alloc' X HM1.out.cells.2.2.2.1
    have HB2 : Hid (Below w1.heap.size w1 (w1.alloc (Obj.cells #[.int .i64 0, .int .u64 x] 71))) := (Below.refl _ _).alloc (Nat.le_refl _) _
    have HM2 : Hid (Mac (w1.alloc (Obj.cells #[.int .i64 0, .int .u64 x] 71)) m B V T M rs ds L S X) := HM1.out.below HB2.out
    have HFl : Hid (Calls Tryz.prog 61 #[.map (some B), .int .u64 (a : Int), .int .i64 (n : Int), .int .u8 (z : Int)] (w1.alloc (Obj.cells #[.int .i64 0, .int .u64 x] 71)) (LaidPost (w1.alloc (Obj.cells #[.int .i64 0, .int .u64 x] 71)) B T (putAt M a (List.replicate n z)))) := fill_all HM2.out.held HLow.out hz
    go_wp2_with fail
    refine HFl.out.mono ?_
    rintro e w4 ⟨rfl, T', hH4, hK4, hG4⟩
    have HM4 : Hid (Mac w4 m B V T' (putAt M a (List.replicate n z)) rs ds L S X) := HM2.out.laid hH4 hK4 hG4
    have hXf : ¬ Foot B T w.heap.size := fun hf => by have := HM.out.held.foot_lt hf; omega
    have HX4 : Hid (BoxF w4 w.heap.size 0 0) := (HX1.out.below HB2.out).keeps hK4 hXf
    have HK4 : Hid (Keeps (fun j => j = m ∨ Foot B T j) w w4) := ((HK1.out.mono (fun _ _ e => .inl e)).trans (Keeps.of_below (S := fun _ => False) HB2.out) (fun _ _ h => h.elim)).trans hK4 (fun _ _ h => .inr h)
    have HG4 : Hid (Grows w.heap.size T T') := fun k g' e => (hG4 k g' e).imp id (fun h => by have := HB2.out.size; omega)
    have HNb : Hid (¬ Foot B T' w.heap.size) := fun hf => hXf (hG4.foot hf (by have := HB2.out.size; omega))
    obtain ⟨x0, x1, f0, f1⟩ := HX4.out.cells
    clear hH4 hK4 hG4 c6 HFl
    go_wp2_with fail
    obtain ⟨d0, d1, _⟩ := (HX4.out.set 0 0).cells
    refine bodyPost_ret (v := .agg #[.int .i64 0, .int .u64 0]) (by simp [results, Tryz.results27, go_sem, d0, d1]) rfl ?_
    have hk6 := Keeps.two w4 w.heap.size (.int .i64 0) (.int .u64 0)
    refine ⟨x, false, HOff.out, by rw [HXz.out]; rfl, HK4.out.trans hk6 (fun i hi e => absurd e (by omega)), fun h => (by cases h), fun _ => ⟨T', HM4.out.keeps hk6 (fun j hj e => ?_), HG4.out⟩⟩
    subst e
    rcases hj with h | h | ⟨u, hu, e⟩
    · omega
    · exact HNb.out h
    · have := HM.out.mine_lt (.inr (.inr ⟨u, hu, e⟩)); omega
set_option maxRecDepth 100000 in
set_option maxHeartbeats 4000000 in
theorem writeM_any {w : World} {m B : Nat} {V : Value × Value × Value} {T : Nat → Option Nat} {M : Nat → Nat} {rs ds : List Sp} {L S X a n cap : Nat} {ao : Option Addr} {zs : List Nat} (h : Mac w m B V T M rs ds L S X) (ha : a ≤ 18446744073709551615) (hn : n ≤ 9223372036854775807) (hnz : n = zs.length) (hs : Sl w (.slice ao n cap) zs) (hf : 0 < n → ∀ j, (Value.slice ao n cap).ownBlock = some j → ¬ Mine m B V T j) (hX : X ≤ 4611686018427387904) :
    Calls Tryz.prog 57 #[.pointer (some ⟨m, 0, none⟩), .int .u64 (a : Int), .slice ao n cap] w (FillPost w m B V T M (putAt M a zs) rs ds L S X a n) := by
  have HA : Hid (∀ W, Below w.heap.size w W → Calls Tryz.prog 83 #[.pointer (some ⟨m, 0, none⟩), .int .u64 (a : Int), .int .i64 (n : Int)] W (AskPost W m B V T M rs ds L S X a n)) := fun W hW => ask_any (h.below hW) ha hn hX
  have HM : Hid (Mac w m B V T M rs ds L S X) := h
  have hml := h.lt
  have HNz : Hid (n = zs.length) := hnz
  have HS0 : Hid (Sl w (.slice ao n cap) zs) := hs
  have HNf : Hid (0 < n → ∀ j, (Value.slice ao n cap).ownBlock = some j → ¬ Mine m B V T j) := hf
  clear h hnz hs hf
  go_enter Tryz.func57, Tryz.ntmps57
  go_wp2_with fail
  refine (HA.out _ ((Below.refl _ _).alloc (Nat.le_refl _) _)).mono ?_
  rintro e w1 ⟨x, b, ho, rfl, hm1, hk1⟩
  have HOff : Hid (OffR (rs ++ ds) a n x b) := ho
  have HX1 : Hid (BoxF w1 w.heap.size 0 0) := (BoxF.new w 0 0).keeps hk1 (by omega)
  have HM1 : Hid (Mac w1 m B V T M rs ds L S (up b X)) := hm1
  have HK1 : Hid (Keeps (fun j => j = m) w w1) := (Keeps.alloc (S := fun j => j = m) w _).trans hk1 (fun _ _ e => e)
  have HSl : Hid (Sl w1 (.slice ao n cap) zs) := sl_keeps HNz.out HS0.out HK1.out (fun h0 j e h => HNf.out h0 j e (.inl h))
  have hne : w.heap.size ≠ w1.heap.size := Nat.ne_of_lt HX1.out.lt
  have hlt1 := HX1.out.lt
  clear ho hm1 hk1 HA
  unfold FaultV
  cases b with
  | true =>
    simp only [if_true]
    obtain ⟨x0, x1, f0, f1⟩ := HX1.out.cells
    have y0 := fun X => (HX1.out.below ((Below.refl _ _).alloc (Nat.le_refl _) X)).cells.1
    have y1 := fun X => (HX1.out.below ((Below.refl _ _).alloc (Nat.le_refl _) X)).cells.2.1
    have y2 := fun X => (HX1.out.below ((Below.refl _ _).alloc (Nat.le_refl _) X)).cells.2.2.1
    have y3 := fun X => (HX1.out.below ((Below.refl _ _).alloc (Nat.le_refl _) X)).cells.2.2.2
    go_wp2_with fail
    have hbx := (HX1.out.set 30 x).below ((Below.refl _ _).alloc (Nat.le_refl _) (Obj.cells #[.int .i64 30, .int .u64 x] 71))
    obtain ⟨d0, d1, _⟩ := hbx.cells
    refine bodyPost_ret (v := .agg #[.int .i64 30, .int .u64 x]) (by simp [results, Tryz.results57, go_sem, d0, d1]) rfl ?_
    have hk2 : Keeps (fun j => j = w.heap.size) w1 (((w1.setCell ⟨w.heap.size, 0, none⟩ (.int .i64 30)).setCell ⟨w.heap.size, 1, none⟩ (.int .u64 x)).alloc (Obj.cells #[.int .i64 30, .int .u64 x] 71)) := (Keeps.two w1 w.heap.size (.int .i64 30) (.int .u64 x)).trans (Keeps.alloc (S := fun _ => False) _ _) (fun _ _ h => h.elim)
    exact ⟨x, true, HOff.out, rfl, (HK1.out.mono (fun _ _ e => .inl e)).trans hk2 (fun i hi e => absurd e (by omega)), fun _ => HM1.out.keeps hk2 (fun j hj e => by have := HM.out.mine_lt hj; omega), fun h => by cases h⟩
  | false =>
    simp only [Bool.false_eq_true, if_false]
    have HLow : Hid (0 < n → a + n ≤ 4294967296) := fun h0 => off_low HOff.out HM.out h0
    have HXz : Hid (x = 0) := (HOff.out.2 rfl).1
    obtain ⟨x0, x1, f0, f1⟩ := HX1.out.cells
    have c6 := fun X => U64.cell_alloc' X HM1.out.cells.2.2.2.1
    have HB2 : Hid (Below w1.heap.size w1 (w1.alloc (Obj.cells #[.int .i64 0, .int .u64 x] 71))) := (Below.refl _ _).alloc (Nat.le_refl _) _
    have HM2 : Hid (Mac (w1.alloc (Obj.cells #[.int .i64 0, .int .u64 x] 71)) m B V T M rs ds L S X) := HM1.out.below HB2.out
    have HFl : Hid (Calls Tryz.prog 52 #[.map (some B), .int .u64 (a : Int), .slice ao n cap] (w1.alloc (Obj.cells #[.int .i64 0, .int .u64 x] 71)) (LaidPost (w1.alloc (Obj.cells #[.int .i64 0, .int .u64 x] 71)) B T (putAt M a zs))) := lay_all HM2.out.held HNz.out HLow.out (HSl.out.below HB2.out) (fun h0 j e hf => HNf.out h0 j e (.inr (.inl hf)))
    go_wp2_with fail
    refine HFl.out.mono ?_
    rintro e w4 ⟨rfl, T', hH4, hK4, hG4⟩
    have HM4 : Hid (Mac w4 m B V T' (putAt M a zs) rs ds L S X) := HM2.out.laid hH4 hK4 hG4
    have hXf : ¬ Foot B T w.heap.size := fun hf => by have := HM.out.held.foot_lt hf; omega
    have HX4 : Hid (BoxF w4 w.heap.size 0 0) := (HX1.out.below HB2.out).keeps hK4 hXf
    have HK4 : Hid (Keeps (fun j => j = m ∨ Foot B T j) w w4) := ((HK1.out.mono (fun _ _ e => .inl e)).trans (Keeps.of_below (S := fun _ => False) HB2.out) (fun _ _ h => h.elim)).trans hK4 (fun _ _ h => .inr h)
    have HG4 : Hid (Grows w.heap.size T T') := fun k g' e => (hG4 k g' e).imp id (fun h => by have := HB2.out.size; omega)
    have HNb : Hid (¬ Foot B T' w.heap.size) := fun hf => hXf (hG4.foot hf (by have := HB2.out.size; omega))
    obtain ⟨x0, x1, f0, f1⟩ := HX4.out.cells
    clear hH4 hK4 hG4 c6 HFl
    go_wp2_with fail
    obtain ⟨d0, d1, _⟩ := (HX4.out.set 0 0).cells
    refine bodyPost_ret (v := .agg #[.int .i64 0, .int .u64 0]) (by simp [results, Tryz.results57, go_sem, d0, d1]) rfl ?_
    have hk6 := Keeps.two w4 w.heap.size (.int .i64 0) (.int .u64 0)
    refine ⟨x, false, HOff.out, by rw [HXz.out]; rfl, HK4.out.trans hk6 (fun i hi e => absurd e (by omega)), fun h => (by cases h), fun _ => ⟨T', HM4.out.keeps hk6 (fun j hj e => ?_), HG4.out⟩⟩
    subst e
    rcases hj with h | h | ⟨u, hu, e⟩
    · omega
    · exact HNb.out h
    · have := HM.out.mine_lt (.inr (.inr ⟨u, hu, e⟩)); omega
end Go.Proofs.YtddgoncbdlhhhaaGreat
