import Derived.Test.YtddgoncbdlhhhaaGreatQ20
import Derived.Test.YtddgoncbdlhhhaaGreatQ28
import Derived.Test.YtddgoncbdlhhhaaGreatQ02
import Derived.Shelf.Bits.Mul64
import Derived.Lib.MakeNoZero
import Derived.Laws.CopyOwn
/- The document's own Where. Own work. -/
namespace Go.Proofs.YtddgoncbdlhhhaaGreat
open Go.RowKit Go.Maps Go.Proofs.YtddgoncbdlhhhaaGreat.Sp
theorem spot_left {a : Int} : ∀ {rs : List Sp} (i : Nat), (∀ x ∈ rs, ¬ inR a x) → spotFrom a i rs = none
  | [], _, _ => rfl
  | r :: rs, i, h => by rw [spotFrom, if_neg (h r (List.mem_cons_self ..)), spot_left (i + 1) (fun x hx => h x (List.mem_cons_of_mem _ hx))]
theorem spot_hit {a : Int} : ∀ {rs : List Sp} (i k : Nat) (hk : k < rs.length), (∀ x ∈ rs.take k, ¬ inR a x) → inR a rs[k] → spotFrom a i rs = some (i + k, a - rs[k].1)
  | [], _, k, hk, _, _ => by simp at hk
  | r :: rs, i, 0, hk, _, hi => by rw [spotFrom, if_pos (show r.1 ≤ a ∧ a < r.1 + r.2 from hi)]; rfl
  | r :: rs, i, k + 1, hk, h, hi => by
    rw [spotFrom, if_neg (h r (by simp)), spot_hit (i + 1) k (by simpa using hk) (fun x hx => h x (by simp [hx])) hi]
    simp only [List.getElem_cons_succ]
    congr 2
    omega
theorem where_none {rs ds : List Sp} {a : Int} (h : ∀ x ∈ rs ++ ds, ¬ inR a x) : whereV rs ds a = spotV 2 none := by
  rw [whereV, spot_left 0 (fun x hx => h x (List.mem_append_left _ hx))]
  show spotV 2 (spotFrom a 0 ds) = _
  rw [spot_left 0 (fun x hx => h x (List.mem_append_right _ hx))]
theorem where_ram {rs ds : List Sp} {a : Int} {k : Nat} (hk : k < (rs ++ ds).length) (hr : k < rs.length) (h : ∀ x ∈ (rs ++ ds).take k, ¬ inR a x) (hi : inR a (rs ++ ds)[k]) : whereV rs ds a = spotV 1 (some (k, a - (rs ++ ds)[k].1)) := by
  rw [List.getElem_append_left hr] at hi ⊢
  rw [whereV, spot_hit 0 k hr (fun x hx => h x (by rw [List.take_append]; exact List.mem_append_left _ hx)) hi, Nat.zero_add]
theorem where_dev {rs ds : List Sp} {a : Int} {k : Nat} (hk : k < (rs ++ ds).length) (hr : ¬ k < rs.length) (h : ∀ x ∈ (rs ++ ds).take k, ¬ inR a x) (hi : inR a (rs ++ ds)[k]) : whereV rs ds a = spotV 2 (some (k - rs.length, a - (rs ++ ds)[k].1)) := by
  have hk2 : k - rs.length < ds.length := by rw [List.length_append] at hk; omega
  rw [List.getElem_append_right (by omega)] at hi ⊢
  have ht : (rs ++ ds).take k = rs ++ ds.take (k - rs.length) := by rw [List.take_append, List.take_of_length_le (by omega)]
  rw [ht] at h
  rw [whereV, spot_left 0 (fun x hx => h x (List.mem_append_left _ hx))]
  show spotV 2 (spotFrom a 0 ds) = _
  rw [spot_hit 0 (k - rs.length) hk2 (fun x hx => h x (List.mem_append_right _ hx)) hi, Nat.zero_add]
theorem spotV_some (kind : Int) (i : Nat) (o : Int) : spotV kind (some (i, o)) = .tuple #[.agg #[.int .i64 kind, .int .i64 (i : Int), .int .u64 o], .bool true] := rfl
set_option maxRecDepth 100000 in
set_option maxHeartbeats 8000000 in
theorem rwhere_any {w : World} {m : Nat} {vr vd vp : Value} {rs ds : List Sp} {L S X : Nat} {a : Int} (h : RBox w m vr vd vp L S X) (hr : U64.SV w vr rs) (hd : U64.SV w vd ds) (hs : Sane (rs ++ ds)) (hl : rs.length + ds.length ≤ 64) (ha : 0 ≤ a ∧ a ≤ 18446744073709551615) :
    Calls Tryz.prog 63 #[.pointer (some ⟨m, 0, none⟩), .int .u64 a] w fun e w' => e = .returned (whereV rs ds a) ∧ Below w.heap.size w w' := by
  have HB0 : Hid (Below w.heap.size w (w.alloc (Obj.cells #[.int .i64 0, .int .i64 0, .int .u64 0] 131))) := (Below.refl _ _).alloc (Nat.le_refl _) _
  have HX0 : Hid (Box3 (w.alloc (Obj.cells #[.int .i64 0, .int .i64 0, .int .u64 0] 131)) w.heap.size (.int .i64 0) (.int .i64 0) (.int .u64 0)) := heap_alloc_new w _
  have HM0 : Hid (RBox (w.alloc (Obj.cells #[.int .i64 0, .int .i64 0, .int .u64 0] 131)) m vr vd vp L S X) := h.below HB0.out
  have HAl : Hid (Calls Tryz.prog 44 #[.agg #[vr, vd]] (w.alloc (Obj.cells #[.int .i64 0, .int .i64 0, .int .u64 0] 131)) fun e w' => ∃ a n c, e = .returned (.slice a n c) ∧ Hid (Below (w.heap.size + 1) (w.alloc (Obj.cells #[.int .i64 0, .int .i64 0, .int .u64 0] 131)) w') ∧ Hid (U64.SV w' (.slice a n c) (rs ++ ds)) ∧ Hid (∀ j, (Value.slice a n c).ownBlock = some j → w.heap.size + 1 ≤ j)) := by
    refine (all_any (hr.below HB0.out (Nat.le_refl _)) (hd.below HB0.out (Nat.le_refl _)) (by omega)).mono ?_
    rintro e w' ⟨a, n, c, rfl, hb, hs, hj⟩
    exact ⟨a, n, c, rfl, hb.out.mono (by simp), hs, fun j e => by have := hj.out j e; simp at this; exact this⟩
  have HS : Hid (Sane (rs ++ ds)) := hs
  obtain ⟨ar, cr, rfl, hcr, hmr, _, _, _⟩ := hr
  unfold maxLen at hmr
  obtain ⟨c0, c1, _, _, _, _⟩ := HM0.out.cells
  have hml0 : m < w.heap.size := h.lt
  have hl2 : (rs ++ ds).length ≤ 64 := by rw [List.length_append]; exact hl
  have HLr : Hid (rs.length ≤ (rs ++ ds).length) := by show _ ≤ _; rw [List.length_append]; omega
  obtain ⟨ha0, ha1⟩ := ha
  have HWn : Hid ((∀ x ∈ rs ++ ds, ¬ inR a x) → whereV rs ds a = spotV 2 none) := where_none
  have HWr : Hid (∀ k (hk : k < (rs ++ ds).length), k < rs.length → (∀ x ∈ (rs ++ ds).take k, ¬ inR a x) → inR a (rs ++ ds)[k] → whereV rs ds a = spotV 1 (some (k, a - (rs ++ ds)[k].1))) := fun k hk => where_ram hk
  have HWd : Hid (∀ k (hk : k < (rs ++ ds).length), ¬ k < rs.length → (∀ x ∈ (rs ++ ds).take k, ¬ inR a x) → inR a (rs ++ ds)[k] → whereV rs ds a = spotV 2 (some (k - rs.length, a - (rs ++ ds)[k].1))) := fun k hk => where_dev hk
  generalize rs ++ ds = LL at *
  clear h hd hs hl
  go_enter Tryz.func63, Tryz.ntmps63
  go_wp2_with fail
  refine HAl.out.mono ?_
  rintro e w1 ⟨al, nl, cl, rfl, HB1, HS1, HJ1⟩
  obtain ⟨al', cl', ev, hcl, hml, _⟩ := id HS1.out
  simp only [Value.slice.injEq] at ev
  obtain ⟨rfl, hnl, rfl⟩ := ev
  have HN : Hid (nl = LL.length) := hnl
  have hn40 : nl ≤ 64 := by rw [hnl]; exact hl2
  have hcl' : nl ≤ cl := by rw [hnl]; exact hcl
  have HBw : Hid (Below w.heap.size w w1) := HB0.out.trans (HB1.out.mono (Nat.le_succ _))
  have HX1 : Hid (Box3 w1 w.heap.size (.int .i64 0) (.int .i64 0) (.int .u64 0)) := (HB1.out.block w.heap.size (Nat.lt_succ_self _)).trans HX0.out
  have HM1 : Hid (RBox w1 m (.slice ar rs.length cr) vd vp L S X) := (HB1.out.block m (Nat.lt_succ_of_lt hml0)).trans HM0.out
  unfold maxLen at hml
  clear hnl hcl HAl c0 c1 hl2
  go_wp2_with fail
  go_loopw [7] (fun kv wr => ∃ k : Nat, k ≤ nl ∧ kv = .int .i64 (k : Int) ∧ Hid (∀ x ∈ LL.take k, ¬ inR a x) ∧ Hid (Below w1.heap.size w1 wr)) (fun kv _ => nl - (intOf kv).toNat)
  case atStart => exact ⟨0, Nat.zero_le _, rfl, fun x hx => by simp at hx, Below.refl _ _⟩
  case round =>
    obtain ⟨k, hk, rfl, HI, HB⟩ := hrel
    have HX : Hid (Box3 wr w.heap.size (.int .i64 0) (.int .i64 0) (.int .u64 0)) := (HB.out.block w.heap.size (Array.getElem?_eq_some_iff.1 HX1.out).1).trans HX1.out
    have HBe : Hid (Below w.heap.size w wr) := HBw.out.trans (HB.out.mono HBw.out.size)
    obtain ⟨x0, x1, x2, f0, f1, f2⟩ := HX.out.cells
    by_cases hlt : k < nl
    · have hkL : k < LL.length := by rw [← HN.out]; exact hlt
      have hsan := HS.out LL[k] (List.getElem_mem _)
      have HTk : Hid (LL.take (k + 1) = LL.take k ++ [LL[k]]) := List.take_succ_eq_append_getElem hkL
      have HWr2 := Lib.hid (HWr.out k hkL)
      have HWd2 := Lib.hid (HWd.out k hkL)
      obtain ⟨_, _, e, _, _, _, _, h5⟩ := HS1.out.below HB.out (Nat.le_refl _)
      simp only [Value.slice.injEq] at e
      obtain ⟨rfl, hzz, rfl⟩ := e
      clear hzz
      obtain ⟨g, off, rfl, d0, d1⟩ := h5 k hkL
      clear h5
      generalize LL[k] = xx at *
      obtain ⟨b, s⟩ := xx
      simp only at d0 d1 hsan
      obtain ⟨b0, b1, b2⟩ := hsan
      have jk : (k : Int) < (nl : Int) := by omega
      obtain ⟨c0, c1, _, _, _, _⟩ := (HM1.out.below HB.out).cells
      by_cases q1 : b ≤ a
      · have q1d : decide (b ≤ a) = true := decide_eq_true q1
        by_cases q2 : a - b < s
        · have q2d : decide (a - b < s) = true := decide_eq_true q2
          have hin : inR a (b, s) := ⟨q1, by show a < b + s; omega⟩
          by_cases hr : k < rs.length
          · have HE : Hid (whereV rs ds a = .tuple #[.agg #[.int .i64 1, .int .i64 (k : Int), .int .u64 (a - b)], .bool true]) := HWr2.out hr HI.out hin
            have hrd : (k : Int) < (rs.length : Int) := by omega
            clear HWr2 HWd2 HTk hin
            go_wp2_with fail
            go_quiet (fail)
            go_wp2_with fail
            obtain ⟨e0, e1, e2, _⟩ := Box3.cells (w := (((wr.drewN nq).setCell ⟨w.heap.size, 0, none⟩ (.int .i64 1)).setCell ⟨w.heap.size, 1, none⟩ (.int .i64 (k : Int))).setCell ⟨w.heap.size, 2, none⟩ (.int .u64 (a - b))) (Box3.set (w := wr.drewN nq) HX.out (.int .i64 1) (.int .i64 (k : Int)) (.int .u64 (a - b)))
            refine bodyPost_ret (v := .tuple #[.agg #[.int .i64 1, .int .i64 (k : Int), .int .u64 (a - b)], .bool true]) (by simp [results, Tryz.results63, go_sem, e0, e1, e2]) rfl ?_
            exact ⟨by rw [HE.out], (((U64.below_drewN' HBe.out _).setCell (p := ⟨w.heap.size, 0, none⟩) (Nat.le_refl _) _).setCell (p := ⟨w.heap.size, 1, none⟩) (Nat.le_refl _) _).setCell (p := ⟨w.heap.size, 2, none⟩) (Nat.le_refl _) _⟩
          · have HE : Hid (whereV rs ds a = .tuple #[.agg #[.int .i64 2, .int .i64 ((k - rs.length : Nat) : Int), .int .u64 (a - b)], .bool true]) := HWd2.out hr HI.out hin
            obtain ⟨r, hrr⟩ : ∃ r, r = rs.length := ⟨_, rfl⟩
            rw [← hrr] at c0 HE hr hcr
            clear hrr
            have hrk : r ≤ k := by omega
            have hrd : decide ((k : Int) < (r : Int)) = false := decide_eq_false (by omega)
            have hwr : IntKind.i64.wrap ((k : Int) - (r : Int)) = ((k - r : Nat) : Int) := by rw [IntKind.wrap_i64]; omega
            have hnn : ¬ (k : Int) < (r : Int) := by omega
            have hwa : IntKind.u64.wrap (a - b) = a - b := U64.wrap_in (by omega) (by omega)
            have hgn : g ≠ w.heap.size := by have := HJ1.out g rfl; omega
            have hmn : m ≠ w.heap.size := by omega
            clear HWr2 HWd2 HTk hin
            go_wp2_with fail
            go_quiet (fail)
            go_wp2_with fail
            go_region_held3 (fun w' => w'.cell? ⟨m, 0, none⟩ = some (.slice ar r cr) ∧ w'.cell? ⟨g, off + k * 2, none⟩ = some (.int .u64 b)) (first | exact ⟨(U64.set_other hmn).trans ((U64.set_other hmn).trans ((U64.set_other hmn).trans c0)), (U64.set_other hgn).trans ((U64.set_other hgn).trans ((U64.set_other hgn).trans d0))⟩ | go_keep) (fail)
            go_wp2_with fail
            obtain ⟨e0, e1, e2, _⟩ := Box3.cells (w := (((wr.drewN (nq + 1)).setCell ⟨w.heap.size, 0, none⟩ (.int .i64 2)).setCell ⟨w.heap.size, 1, none⟩ (.int .i64 ((k - r : Nat) : Int))).setCell ⟨w.heap.size, 2, none⟩ (.int .u64 (a - b))) (Box3.set (w := wr.drewN (nq + 1)) HX.out (.int .i64 2) (.int .i64 ((k - r : Nat) : Int)) (.int .u64 (a - b)))
            refine bodyPost_ret (v := .tuple #[.agg #[.int .i64 2, .int .i64 ((k - r : Nat) : Int), .int .u64 (a - b)], .bool true]) (by simp [results, Tryz.results63, go_sem, e0, e1, e2]) rfl ?_
            exact ⟨by rw [HE.out], (((U64.below_drewN' HBe.out _).setCell (p := ⟨w.heap.size, 0, none⟩) (Nat.le_refl _) _).setCell (p := ⟨w.heap.size, 1, none⟩) (Nat.le_refl _) _).setCell (p := ⟨w.heap.size, 2, none⟩) (Nat.le_refl _) _⟩
        · have q2d : decide (a - b < s) = false := decide_eq_false q2
          have HIn : Hid (∀ x ∈ LL.take (k + 1), ¬ inR a x) := fun x hx => by
            rw [HTk.out] at hx
            rcases List.mem_append.1 hx with hx | hx
            · exact HI.out x hx
            · rw [List.mem_singleton.1 hx]; simp only [inR]; omega
          clear HWr2 HWd2 HTk
          go_wp2_with fail
          go_quiet (fail)
          go_wp2_with fail
          go_roundw
          case rel => exact ⟨k + 1, by omega, by go_num, HIn, U64.below_drewN' HB.out _⟩
          case measure => simp [intOf]; omega
      · have q1d : decide (b ≤ a) = false := decide_eq_false q1
        have HIn : Hid (∀ x ∈ LL.take (k + 1), ¬ inR a x) := fun x hx => by
            rw [HTk.out] at hx
            rcases List.mem_append.1 hx with hx | hx
            · exact HI.out x hx
            · rw [List.mem_singleton.1 hx]; simp only [inR]; omega
        clear HWr2 HWd2 HTk
        go_wp2_with fail
        go_quiet (fail)
        go_wp2_with fail
        go_roundw
        case rel => exact ⟨k + 1, by omega, by go_num, HIn, U64.below_drewN' HB.out _⟩
        case measure => simp [intOf]; omega
    · obtain rfl : k = nl := by omega
      have HE : Hid (whereV rs ds a = .tuple #[.agg #[.int .i64 0, .int .i64 0, .int .u64 0], .bool false]) := HWn.out (fun x hx => HI.out x (by rw [HN.out, List.take_length]; exact hx))
      go_wp2_with fail
      obtain ⟨e0, e1, e2, _⟩ := Box3.cells (Box3.set HX.out (.int .i64 0) (.int .i64 0) (.int .u64 0))
      refine bodyPost_ret (v := .tuple #[.agg #[.int .i64 0, .int .i64 0, .int .u64 0], .bool false]) (by simp [results, Tryz.results63, go_sem, e0, e1, e2]) rfl ?_
      exact ⟨by rw [HE.out], ((HBe.out.setCell (p := ⟨w.heap.size, 0, none⟩) (Nat.le_refl _) _).setCell (p := ⟨w.heap.size, 1, none⟩) (Nat.le_refl _) _).setCell (p := ⟨w.heap.size, 2, none⟩) (Nat.le_refl _) _⟩
end Go.Proofs.YtddgoncbdlhhhaaGreat
/- bytes.Repeat of one byte. Own work. -/
namespace Go.Proofs.YtddgoncbdlhhhaaGreat
open Go.RowKit
def ren264 : Go.Shelf.Ren := ⟨fun | 264 => 120 | n => n, fun | 53 => 26 | 46 => 93 | n => n, fun | n => n⟩
theorem lays264 : Go.Proofs.Lays.n264 Tryz.prog ren264 := {
  mixed := by kernel_rfl
  f264 := Tryz.func120.trans (congrArg some (by kernel_rfl))
  t46 := Tryz.underlying93
  a46 := Tryz.isAgg93
  z46 := Tryz.sizeOf93
  v46 := Tryz.zeroValue93
  t53 := Tryz.underlying26
  a53 := Tryz.isAgg26
  z53 := Tryz.sizeOf26
  v53 := Tryz.zeroValue26 }
theorem mul64_small (x y m : Nat) (hm : x * y = m) (h : m < 18446744073709551616) (hx : x < 18446744073709551616) (hy : y < 18446744073709551616) (w : World) :
    Calls Tryz.prog 120 #[.int .u64 x, .int .u64 y] w fun e w' => e = .returned (.tuple #[.int .u64 0, .int .u64 m]) ∧ w' = w := by
  have c : Calls Tryz.prog 120 #[.int .u64 x, .int .u64 y] w fun e w' => e = .returned (.tuple #[.int .u64 ((x * y / 18446744073709551616 : Nat) : Int), .int .u64 ((x * y % 18446744073709551616 : Nat) : Int)]) ∧ w' = w := Any.bits_Mul64 lays264 x y hx hy w
  rw [hm, Nat.div_eq_of_lt h, Nat.mod_eq_of_lt h] at c
  exact c
set_option maxRecDepth 100000 in
set_option maxHeartbeats 2000000 in
theorem bitsMul_one {n : Nat} (hn : n ≤ 4096) (w : World) : Calls Tryz.prog 101 #[.int .u64 1, .int .u64 (n : Int)] w fun e w' => e = .returned (.tuple #[.int .u64 0, .int .u64 (n : Int)]) ∧ w' = w := by
  have HM : Hid (∀ w : World, Calls Tryz.prog 120 #[.int .u64 1, .int .u64 (n : Int)] w fun e w' => e = .returned (.tuple #[.int .u64 0, .int .u64 (n : Int)]) ∧ w' = w) := fun w => mul64_small 1 n n (by omega) (by omega) (by omega) (by omega) w
  go_enter Tryz.func101, Tryz.ntmps101
  go_wp2_with (first | (go_at_call 120; refine (HM.out _).mono ?_; rintro e w' ⟨rfl, hw⟩; have hw := hw.symm; subst hw))
  go_ret2
  exact ⟨rfl, rfl⟩
/-- a row whose first k cells are z -/
def FillR (w : World) (g z k C : Nat) : Prop := ∃ cur : List Value, cur.length = C ∧ w.heap[g]? = some (.cells cur.toArray 5 (0, 0)) ∧ ∀ i, i < k → cur[i]? = some (.int .u8 (z : Int))
theorem FillR.at {w : World} {g z k C : Nat} (h : FillR w g z k C) (j : Nat) (hj : j < k) : w.cell? ⟨g, j, none⟩ = some (.int .u8 (z : Int)) := by
  obtain ⟨cur, _, h1, h2⟩ := h
  rw [cell_of_row w g j _ _ _ h1, List.getElem?_toArray, h2 j hj]
theorem fill_more {w' : World} {g z k C c : Nat} {cur : List Value} (hl : cur.length = C) (h2 : ∀ i, i < k → cur[i]? = some (.int .u8 (z : Int))) (hfit : k + c ≤ C)
    (hg : w'.heap[g]? = some (.cells (cur.take k ++ (List.replicate c (Value.int .u8 (z : Int)) ++ cur.drop (k + c))).toArray 5 (0, 0))) : FillR w' g z (k + c) C := by
  have hlk : (cur.take k).length = k := by rw [List.length_take]; omega
  refine ⟨_, ?_, hg, fun i hi => ?_⟩
  · rw [List.length_append, List.length_append, hlk, List.length_replicate, List.length_drop]; omega
  · by_cases h : i < k
    · rw [List.getElem?_append_left (by rw [hlk]; exact h), List.getElem?_take_of_lt h, h2 i h]
    · rw [List.getElem?_append_right (by rw [hlk]; omega), hlk, List.getElem?_append_left (by rw [List.length_replicate]; omega), List.getElem?_replicate, if_pos (by omega)]
theorem wpList_copy_z {w : World} {ops : Array Oper} {rest : List Oper} {o : Oper} {a : Act} {Q : Exit → Act → World → Prop} (hgd : o.guard = none) (d s : Operand)
    (ho : o.op = .call { callee := .builtin .copy, args := #[d, s], argTypes := #[27, 27] }) {g off dl dc gs so sl sc z C : Nat} (hd : a.eval d = .slice (some ⟨g, off, none⟩) dl dc) (hs : a.eval s = .slice (some ⟨gs, so, none⟩) sl sc)
    (hf : FillR w g z off C) (c : Nat) (hc : c = Nat.min sl dl) (hsrc : ∀ j, j < c → w.cell? ⟨gs, so + j, none⟩ = some (.int .u8 (z : Int))) (hfit : off + c ≤ C)
    (h : ∀ w', FillR w' g z (off + c) C → Keeps (fun j => j = g) w w' → wpList Tryz.prog ops Q rest (a.put o.dst (goInt c)) w') : wpList Tryz.prog ops Q (o :: rest) a w := by
  obtain ⟨i, hi, hz0, hz1, hz2⟩ := info_parts info_byte
  have hsz : (Tryz.prog.info? 5).map (·.size) = some 1 := by rw [hi, Option.map_some, hz1]
  obtain ⟨cur, hl, hg, h2⟩ := hf
  have hcl : (List.replicate c (Value.int .u8 (z : Int))).length = c := List.length_replicate
  refine wpList_copy_own hgd d s _ _ ho 5 Tryz.underlying27 hsz g off dl dc ⟨gs, so, none⟩ sl sc hd hs cur.toArray 5 hg (List.replicate c (Value.int .u8 (z : Int))) (by rw [hcl]; exact hc) ?_ (by rw [hcl]; simpa using (by omega : off + c ≤ cur.length)) (fun v hv => by rw [List.eq_of_mem_replicate hv]; rfl) ?_
  · intro j u hj
    have hjl : j < c := by rw [← hcl]; exact (List.getElem?_eq_some_iff.1 hj).1
    rw [List.getElem?_replicate, if_pos hjl] at hj
    cases hj
    rw [Addr.add_lit, hsrc j hjl]
  · rw [hcl]
    exact h _ (fill_more hl h2 hfit (by simpa using setRow_heap w g _ _ _ _ hg)) (Keeps.setRow _ _ _)
theorem step_copy_z {w : World} {ops : Array Oper} {o : Oper} {a : Act} {K : Act → World → Prop} {Q : Exit → Act → World → Prop} {E : Prop} (hw : Region.wanted o (yielded ops a.tmps) = true) (d s : Operand)
    (ho : o.op = .call { callee := .builtin .copy, args := #[d, s], argTypes := #[27, 27] }) {g off dl dc so sl sc gs z C : Nat} (hd : a.eval d = .slice (some ⟨g, off, none⟩) dl dc) (hs : a.eval s = .slice (some ⟨gs, so, none⟩) sl sc)
    (hf : FillR w g z off C) (c : Nat) (hc : c = Nat.min sl dl) (hsrc : ∀ j, j < c → w.cell? ⟨gs, so + j, none⟩ = some (.int .u8 (z : Int))) (hfit : off + c ≤ C)
    (h : ∀ w', FillR w' g z (off + c) C → Keeps (fun j => j = g) w w' → K (a.put o.dst (goInt c)) w') : if Region.wanted o (yielded ops a.tmps) = true then Oper.wp Tryz.prog o a w K Q else E := by
  rw [if_pos hw]
  obtain ⟨i, hi, hz0, hz1, hz2⟩ := info_parts info_byte
  have hsz : (Tryz.prog.info? 5).map (·.size) = some 1 := by rw [hi, Option.map_some, hz1]
  obtain ⟨cur, hl, hg, h2⟩ := hf
  have hcl : (List.replicate c (Value.int .u8 (z : Int))).length = c := List.length_replicate
  have hrun := run_copy_row (P := Tryz.prog) w 27 27 o.type 5 g off dl dc ⟨gs, so, none⟩ sl sc cur.toArray 5 (List.replicate c (Value.int .u8 (z : Int))) Tryz.underlying27 hsz hg (by rw [hcl]; exact hc) (fun j u hj => by
      have hjl : j < c := by rw [← hcl]; exact (List.getElem?_eq_some_iff.1 hj).1
      rw [List.getElem?_replicate, if_pos hjl] at hj
      cases hj
      rw [Addr.add_lit, hsrc j hjl]) (by rw [hcl]; simpa using (by omega : off + c ≤ cur.length)) (fun v hv => by rw [List.eq_of_mem_replicate hv]; rfl)
  rw [hcl] at hrun
  unfold Oper.wp execOp
  simp only [ho, resolve, invoke, builtin, Sem.run_bind, Sem.run_pure, Result.andThen_ok, List.map_toArray, List.map_cons, List.map_nil, hd, hs, hrun]
  exact h _ (fill_more hl h2 hfit (by simpa using setRow_heap w g _ _ _ _ hg)) (Keeps.setRow _ _ _)
theorem FillR.keeps {Z : Nat → Prop} {w w' : World} {g z k C : Nat} (h : FillR w g z k C) (hk : Keeps Z w w') (hn : ¬ Z g) : FillR w' g z k C := by
  obtain ⟨cur, h1, h2, h3⟩ := h
  exact ⟨cur, h1, (hk.block g (Array.getElem?_eq_some_iff.1 h2).1 hn).trans h2, h3⟩
theorem below_g {w W w' : World} {g : Nat} (h : Below w.heap.size w W) (hk : Keeps (fun j => j = g) W.drew w') (hg : w.heap.size ≤ g) : Below w.heap.size w w' :=
  ⟨hk.os.trans h.os, hk.tape.trans h.tape, hk.output.trans h.output, Nat.le_trans h.size hk.size, fun j hj => (hk.block j (Nat.lt_of_lt_of_le hj h.size) (fun e => by have e : j = g := e; omega)).trans (h.block j hj)⟩
theorem FillR.drew {w : World} {g z k C : Nat} (h : FillR w g z k C) : FillR w.drew g z k C := h
set_option maxRecDepth 100000 in
set_option maxHeartbeats 4000000 in
theorem repeat_any {w : World} {b z n : Nat} (hb : RowT w 5 b [z]) (hz : z < 256) (hn : 0 < n ∧ n ≤ 4096) :
    Calls Tryz.prog 90 #[.slice (some ⟨b, 0, none⟩) 1 1, .int .i64 (n : Int)] w fun e w' => ∃ g, e = .returned (.slice (some ⟨g, 0, none⟩) n n) ∧ w.heap.size ≤ g ∧ Below w.heap.size w w' ∧ Sl w' (.slice (some ⟨g, 0, none⟩) n n) (List.replicate n z) := by
  have HMul : Hid (∀ w : World, Calls Tryz.prog 101 #[.int .u64 1, .int .u64 (n : Int)] w fun e w' => e = .returned (.tuple #[.int .u64 0, .int .u64 (n : Int)]) ∧ w' = w) := bitsMul_one hn.2
  obtain ⟨cs, hrunM, hle, hmax⟩ := Lib.run_makeNoZero (P := Tryz.prog) w #[3] 27 5 Tryz.underlying27 n (by omega)
  have hcall : (callFunc 102 #[.int .i64 (n : Int)]).run Tryz.prog w = .ok (.value (.slice (some ⟨w.heap.size, 0, none⟩) n cs.size)) ((w.alloc (.cells cs 5)).drewN 2) := by
    rw [run_callFunc_extern Tryz.func102 (by kernel_rfl) (by kernel_rfl) (by kernel_rfl) (e := Extern.BytealgMakeNoZero.makeNoZero #[3] #[27]) (by kernel_rfl), hrunM]
    rfl
  clear hrunM
  have HB0 : Hid (Below w.heap.size w ((w.alloc (.cells cs 5)).drewN 2)) := by
    have h := (Below.refl w.heap.size w).alloc (Nat.le_refl _) (.cells cs 5)
    exact ⟨h.os, h.tape, h.output, h.size, h.block⟩
  have HG0 : Hid (FillR ((w.alloc (.cells cs 5)).drewN 2) w.heap.size z 0 cs.size) := by
    refine ⟨cs.toList, Array.length_toList, ?_, fun i hi => by omega⟩
    show (w.alloc (.cells cs 5)).heap[w.heap.size]? = _
    rw [Array.toArray_toList]
    exact heap_alloc_new w _
  have HMin : Hid (1 = Nat.min 1 n) := by have := hn.1; exact (Nat.min_eq_left (by omega)).symm
  have HSrc : Hid (∀ j, j < 1 → ((w.alloc (.cells cs 5)).drewN 2).cell? ⟨b, 0 + j, none⟩ = some (.int .u8 (z : Int))) := by
    intro j hj
    obtain rfl : j = 0 := by omega
    have h2 : RowT ((w.alloc (.cells cs 5)).drewN 2) 5 b [z] := (HB0.out.block b (Array.getElem?_eq_some_iff.1 hb).1).trans hb
    rw [cell_of_row _ b _ _ _ _ h2]
    rfl
  have HFit : Hid (0 + 1 ≤ cs.size) := (by omega : 0 + 1 ≤ cs.size)
  have HCap : Hid (cs.size ≤ maxLen) := hmax (by unfold maxLen; omega)
  clear hb hmax
  go_enter Tryz.func90, Tryz.ntmps90
  go_wp2_with (first | (go_at_call 101; refine (HMul.out _).mono ?_; rintro e w' ⟨rfl, hw⟩; have hw := hw.symm; subst hw) | (refine wpList_copy_z rfl (.tmp 58) (.tmp 59) rfl rfl rfl HG0.out 1 HMin.out HSrc.out HFit.out ?_; intro w1 hg1 hk1; have HG1 : Hid (FillR w1 w.heap.size z (0 + 1) cs.size) := hg1; have HK1 : Hid (Keeps (fun j => j = w.heap.size) ((w.alloc (.cells cs 5)).drewN 2) w1) := hk1; clear hg1 hk1 HG0 HSrc HMin HFit))
  obtain ⟨g, hg⟩ : ∃ g, g = w.heap.size := ⟨_, rfl⟩
  obtain ⟨C, hC⟩ : ∃ C, C = cs.size := ⟨_, rfl⟩
  have HB1 : Hid (Below w.heap.size w w1) := ⟨HK1.out.os.trans HB0.out.os, HK1.out.tape.trans HB0.out.tape, HK1.out.output.trans HB0.out.output, Nat.le_trans HB0.out.size HK1.out.size, fun j hj => (HK1.out.block j (Nat.lt_of_lt_of_le hj HB0.out.size) (fun e => by have e : j = w.heap.size := e; omega)).trans (HB0.out.block j hj)⟩
  have HGw : Hid (g = w.heap.size) := hg
  rw [← hg, ← hC] at HG1
  rw [← hg]
  rw [← hC] at hle HCap
  clear hcall HB0 HK1 HMul hg hC
  go_loopw [10] (fun y wr => ∃ k : Nat, 1 ≤ k ∧ k ≤ n ∧ y = .int .i64 (k : Int) ∧ Hid (FillR wr g z k C) ∧ Hid (Below w.heap.size w wr)) (fun y _ => match y with | .int _ x => n - x.toNat | _ => 0)
  case atStart => exact ⟨1, by omega, by omega, rfl, HG1.out, HB1.out⟩
  case round =>
    clear HG1 HB1
    obtain ⟨k, hk1, hkn, rfl, HG1, HB1⟩ := hrel
    by_cases hlt : k < n
    · obtain ⟨c, hc⟩ : ∃ c, c = Nat.min k (n - k) := ⟨_, rfl⟩
      have hc1 : 1 ≤ c := by rw [hc]; exact Nat.le_min.2 ⟨hk1, by omega⟩
      have hc2 : k + c ≤ n := by have : Nat.min k (n - k) ≤ n - k := Nat.min_le_right _ _; omega
      have hc3 : c ≤ k := by rw [hc]; exact Nat.min_le_left _ _
      have HC : Hid (c = Nat.min k (n - k)) := hc
      have HSrc : Hid (∀ j, j < c → wr.cell? ⟨g, 0 + j, none⟩ = some (.int .u8 (z : Int))) := fun j hj => by rw [Nat.zero_add]; exact HG1.out.at j (by omega)
      have HFit : Hid (k + c ≤ C) := (by omega : k + c ≤ C)
      have HWr : Hid (IntKind.i64.wrap ((k : Int) + (c : Int)) = ((k + c : Nat) : Int)) := by show _ = _; rw [IntKind.wrap_i64]; omega
      clear hc
      go_wp2_with fail
      go_region_law (refine step_copy_z rfl (.tmp 70) (.tmp 73) rfl (by first | (simp [Act.eval]; done) | (simp [Act.eval, Act.put]; try omega)) (by first | (simp [Act.eval]; done) | simp [Act.eval, Act.put]) (g := g) (off := k) (dl := n - k) (dc := n - k) (gs := g) (so := 0) (sl := k) (sc := n) (z := z) (C := C) HG1.out c HC.out HSrc.out HFit.out ?_; intro w3 h3 k3; have HG3 : Hid (FillR w3 g z (k + c) C) := h3; have HK3 : Hid (Keeps (fun j => j = g) wr.drew w3) := k3; clear h3 k3)
      go_wp2_with fail
      go_roundw
      case rel => exact ⟨k + c, by omega, by omega, by rw [HWr.out], HG3, below_g HB1.out HK3.out (Nat.le_of_eq HGw.out.symm)⟩
      case measure =>
        rw [HWr.out]
        show n - ((k + c : Nat) : Int).toNat < n - ((k : Nat) : Int).toNat
        rw [Int.toNat_natCast, Int.toNat_natCast]
        omega
    · obtain rfl : n = k := by omega
      go_wp2_with fail
      go_ret
      refine ⟨g, rfl, Nat.le_of_eq HGw.out.symm, HB1.out, ?_⟩
      have e : (List.replicate n z).length = n := List.length_replicate
      refine ⟨_, n, by rw [e], by rw [e]; exact Nat.le_refl _, by unfold maxLen; omega, fun y hy => by rw [List.eq_of_mem_replicate hy]; exact hz, fun h => (by cases h), fun i hi => ⟨g, 0, rfl, ?_⟩⟩
      rw [e] at hi
      rw [Nat.zero_add, HG1.out.at i hi, List.getD_eq_getElem?_getD, List.getElem?_replicate, if_pos hi]
      rfl
end Go.Proofs.YtddgoncbdlhhhaaGreat
/- fill: one value laid over pages. Own work. -/
namespace Go.Proofs.YtddgoncbdlhhhaaGreat
open Go.RowKit Go.Maps
set_option maxRecDepth 100000 in
set_option maxHeartbeats 4000000 in
theorem repeat_zero {w : World} {b : Nat} : Calls Tryz.prog 90 #[.slice (some ⟨b, 0, none⟩) 1 1, .int .i64 0] w fun e w' => ∃ v, e = .returned v ∧ Below w.heap.size w w' := by
  go_enter Tryz.func90, Tryz.ntmps90
  go_wp2_with fail
  go_ret
  exact ⟨_, rfl, (Below.refl _ _).alloc (Nat.le_refl _) _⟩
def FillAt (w wr : World) (B : Nat) (T : Nat → Option Nat) (M : Nat → Nat) (a z g C i : Nat) : Prop :=
  ∃ T', Held wr B T' (putAt M a (List.replicate i z)) ∧ Keeps (Foot B T) w wr ∧ Grows w.heap.size T T' ∧ Sl wr (.slice (some ⟨g, 0, none⟩) C C) (List.replicate C z)
theorem sl_lt {w : World} {g C z : Nat} (h : Sl w (.slice (some ⟨g, 0, none⟩) C C) (List.replicate C z)) (hC : 0 < C) : g < w.heap.size := by
  obtain ⟨ao, cap, e, _, _, _, _, h5⟩ := h
  obtain ⟨b, o, e2, hc⟩ := h5 0 (by rw [List.length_replicate]; exact hC)
  injection e with e1
  rw [e2] at e1
  injection e1 with e1
  injection e1 with e1
  rw [e1]
  simp only [World.cell?] at hc
  cases hq : w.heap[b]? with
  | none => simp [hq] at hc
  | some ob => exact (Array.getElem?_eq_some_iff.1 hq).1
theorem fill_step {w wr : World} {B : Nat} {T : Nat → Option Nat} {M : Nat → Nat} {a z g C i n : Nat} (h : FillAt w wr B T M a z g C i) (ha : a + i < 4294967296) (hn : n ≤ C) (hpg : (a + i) % 4096 + n ≤ 4096) (hb : ¬ Foot B T g) (hbw : g < w.heap.size) :
    Calls Tryz.prog 88 #[.map (some B), .int .u64 ((a + i : Nat) : Int), .slice (some ⟨g, 0, none⟩) n C] wr fun e w' => e = .returned (.tuple #[]) ∧ Hid (FillAt w w' B T M a z g C (i + n)) := by
  obtain ⟨T', hH, hK, hG, hS⟩ := h
  have hl : (List.replicate C z).length = C := List.length_replicate
  have hS' : Sl wr (.slice (some ⟨g, 0, none⟩) n C) ((List.replicate C z).take n) := by
    have h0 : Sl wr (.slice (some ⟨g, 0, none⟩) (List.replicate C z).length C) (List.replicate C z) := by rw [hl]; exact hS
    exact h0.front n (by rw [hl]; exact hn)
  have e1 : (List.replicate C z).take n = List.replicate n z := by rw [List.take_replicate, Nat.min_eq_left hn]
  rw [e1] at hS'
  have hbf : ¬ Foot B T' g := fun hf => hb (hG.foot hf hbw)
  have htl : (List.replicate n z).length = n := List.length_replicate
  refine (layWithin_any hH (a := a + i) (by omega) hS' htl.symm (by rw [htl]; exact hpg) (Nat.lt_of_lt_of_le hbw hK.size) (fun e => hbf (.inl e))).mono ?_
  rintro e w' ⟨rfl, T2, h2, k2, g2⟩
  refine ⟨rfl, T2, ?_, hK.trans k2 (fun j hj hf => hG.foot hf hj), hG.trans g2 hK.size, hS.keeps k2 (fun j e => by cases e; exact hbf)⟩
  have e2 : a + i = a + (List.replicate i z).length := by rw [List.length_replicate]
  rw [e2, putAt_append, List.replicate_append_replicate] at h2
  exact h2
set_option maxRecDepth 100000 in
set_option maxHeartbeats 4000000 in
theorem fill_any {w : World} {B : Nat} {T : Nat → Option Nat} {M : Nat → Nat} {a z N : Nat} (h : Held w B T M) (ha : a + N ≤ 4294967296) (hz : z < 256) (hN : 0 < N) :
    Calls Tryz.prog 61 #[.map (some B), .int .u64 (a : Int), .int .i64 (N : Int), .int .u8 (z : Int)] w (LaidPost w B T (putAt M a (List.replicate N z))) := by
  obtain ⟨C, hC⟩ : ∃ C, C = min N 4096 := ⟨_, rfl⟩
  have hC1 : 0 < C ∧ C ≤ 4096 := by omega
  have HH : Hid (Held w B T M) := h
  have HR : Hid (∀ W b, RowT W 5 b [z] → Calls Tryz.prog 90 #[.slice (some ⟨b, 0, none⟩) 1 1, .int .i64 (C : Int)] W fun e w' => ∃ g, e = .returned (.slice (some ⟨g, 0, none⟩) C C) ∧ W.heap.size ≤ g ∧ Below W.heap.size W w' ∧ Sl w' (.slice (some ⟨g, 0, none⟩) C C) (List.replicate C z)) := fun W b hb => repeat_any hb hz hC1
  have HC : Hid (C = min N 4096) := hC
  clear h hC
  by_cases hle : N ≤ 4096
  · obtain rfl : C = N := by have := HC.out; omega
    have HR' := HR.out (w.alloc (Obj.cells #[.int .u8 (z : Int)] 5)) w.heap.size (heap_alloc_new w _)
    clear HR
    go_enter Tryz.func61, Tryz.ntmps61
    go_wp2_with fail
    refine HR'.mono ?_
    rintro e w1 ⟨g, rfl, hg1, hb1, hs1⟩
    have HB1 : Hid (Below w.heap.size w w1) := ((Below.refl _ _).alloc (Nat.le_refl _) _).trans (hb1.mono (by simp))
    have HF : Hid (¬ Foot B T g ∧ g < w1.heap.size) := ⟨fun hf => by have := HH.out.foot_lt hf; simp at hg1; omega, sl_lt hs1 hC1.1⟩
    have HA : Hid (FillAt w1 w1 B T M a z g C 0) := ⟨T, by rw [List.replicate_zero, putAt_nil]; exact HH.out.below HB1.out, Keeps.refl _ _, Grows.refl _ _, hs1⟩
    clear hb1 hs1 hg1 HR'
    go_wp2_with fail
    go_loopw [1, 2] (fun x y wr => ∃ i m : Nat, i ≤ C ∧ Hid (m = C - i) ∧ m ≤ C ∧ x = .int .u64 ((a + i : Nat) : Int) ∧ y = .int .i64 (m : Int) ∧ Hid (FillAt w1 wr B T M a z g C i)) (fun _ y _ => match y with | .int _ m => m.toNat | _ => 0)
    case atStart => exact ⟨0, C, by omega, (rfl : _ = _), by omega, rfl, rfl, HA⟩
    case round =>
      clear HA
      obtain ⟨i, m, hi, HM, hmN, rfl, rfl, HA⟩ := hrel
      by_cases hlt : 0 < m
      · obtain ⟨n, hn⟩ : ∃ n, n = min m (4096 - (a + i) % 4096) := ⟨_, rfl⟩
        have HW : Hid (Calls Tryz.prog 84 #[.int .u64 ((a + i : Nat) : Int), .int .i64 (m : Int)] wr fun e w' => e = .returned (.int .i64 (n : Int)) ∧ w' = wr) := by rw [hn]; exact within_any (by omega) wr
        have n1 : n ≤ m := by omega
        have n2 : 0 < n := by omega
        have n3 : n ≤ C := by omega
        have HS : Hid (Calls Tryz.prog 88 #[.map (some B), .int .u64 ((a + i : Nat) : Int), .slice (some ⟨g, 0, none⟩) n C] wr fun e w' => e = .returned (.tuple #[]) ∧ Hid (FillAt w1 w' B T M a z g C (i + n))) := fill_step HA.out (by have := HM.out; omega) n3 (by omega) HF.out.1 HF.out.2
        have hab : a + i + n ≤ 4294967296 := by have := HM.out; omega
        have hnm : i + n ≤ C := by have := HM.out; omega
        clear hn
        go_wp2_with (first | (go_at_call 84; refine HW.out.mono ?_; rintro e w' ⟨rfl, hw⟩; have hw := hw.symm; subst hw) | (go_at_call 88; refine HS.out.mono ?_; rintro e w2 ⟨rfl, HS2⟩))
        go_roundw
        case rel => exact ⟨i + n, m - n, hnm, (by have := HM.out; omega : _ = _), by omega, by go_num, by go_num, HS2⟩
        case measure => simp; omega
      · have HE : Hid (i = C) := (by have := HM.out; omega : i = C)
        go_wp2_with fail
        go_end0
        obtain ⟨T', h1, h2, h3, _⟩ := HA.out
        rw [HE.out] at h1
        exact ⟨rfl, T', h1, (Keeps.of_below (S := Foot B T) HB1.out).trans h2 (fun _ _ h => h), fun k g e => (h3 k g e).imp id (Nat.le_trans HB1.out.size)⟩
  · obtain rfl : C = 4096 := by have := HC.out; omega
    have HR' := HR.out (w.alloc (Obj.cells #[.int .u8 (z : Int)] 5)) w.heap.size (heap_alloc_new w _)
    clear HR
    go_enter Tryz.func61, Tryz.ntmps61
    go_wp2_with fail
    refine HR'.mono ?_
    rintro e w1 ⟨g, rfl, hg1, hb1, hs1⟩
    have HB1 : Hid (Below w.heap.size w w1) := ((Below.refl _ _).alloc (Nat.le_refl _) _).trans (hb1.mono (by simp))
    have HF : Hid (¬ Foot B T g ∧ g < w1.heap.size) := ⟨fun hf => by have := HH.out.foot_lt hf; simp at hg1; omega, sl_lt hs1 hC1.1⟩
    have HA : Hid (FillAt w1 w1 B T M a z g 4096 0) := ⟨T, by rw [List.replicate_zero, putAt_nil]; exact HH.out.below HB1.out, Keeps.refl _ _, Grows.refl _ _, hs1⟩
    clear hb1 hs1 hg1 HR'
    go_wp2_with fail
    go_loopw [1, 2] (fun x y wr => ∃ i m : Nat, i ≤ N ∧ Hid (m = N - i) ∧ m ≤ N ∧ x = .int .u64 ((a + i : Nat) : Int) ∧ y = .int .i64 (m : Int) ∧ Hid (FillAt w1 wr B T M a z g 4096 i)) (fun _ y _ => match y with | .int _ m => m.toNat | _ => 0)
    case atStart => exact ⟨0, N, by omega, (rfl : _ = _), by omega, rfl, rfl, HA⟩
    case round =>
      clear HA
      obtain ⟨i, m, hi, HM, hmN, rfl, rfl, HA⟩ := hrel
      by_cases hlt : 0 < m
      · obtain ⟨n, hn⟩ : ∃ n, n = min m (4096 - (a + i) % 4096) := ⟨_, rfl⟩
        have HW : Hid (Calls Tryz.prog 84 #[.int .u64 ((a + i : Nat) : Int), .int .i64 (m : Int)] wr fun e w' => e = .returned (.int .i64 (n : Int)) ∧ w' = wr) := by rw [hn]; exact within_any (by omega) wr
        have n1 : n ≤ m := by omega
        have n2 : 0 < n := by omega
        have n3 : n ≤ 4096 := by omega
        have HS : Hid (Calls Tryz.prog 88 #[.map (some B), .int .u64 ((a + i : Nat) : Int), .slice (some ⟨g, 0, none⟩) n 4096] wr fun e w' => e = .returned (.tuple #[]) ∧ Hid (FillAt w1 w' B T M a z g 4096 (i + n))) := fill_step HA.out (by have := HM.out; omega) n3 (by omega) HF.out.1 HF.out.2
        have hab : a + i + n ≤ 4294967296 := by have := HM.out; omega
        have hnm : i + n ≤ N := by have := HM.out; omega
        clear hn
        go_wp2_with (first | (go_at_call 84; refine HW.out.mono ?_; rintro e w' ⟨rfl, hw⟩; have hw := hw.symm; subst hw) | (go_at_call 88; refine HS.out.mono ?_; rintro e w2 ⟨rfl, HS2⟩))
        go_roundw
        case rel => exact ⟨i + n, m - n, hnm, (by have := HM.out; omega : _ = _), by omega, by go_num, by go_num, HS2⟩
        case measure => simp; omega
      · have HE : Hid (i = N) := (by have := HM.out; omega : i = N)
        go_wp2_with fail
        go_end0
        obtain ⟨T', h1, h2, h3, _⟩ := HA.out
        rw [HE.out] at h1
        exact ⟨rfl, T', h1, (Keeps.of_below (S := Foot B T) HB1.out).trans h2 (fun _ _ h => h), fun k g e => (h3 k g e).imp id (Nat.le_trans HB1.out.size)⟩
end Go.Proofs.YtddgoncbdlhhhaaGreat
